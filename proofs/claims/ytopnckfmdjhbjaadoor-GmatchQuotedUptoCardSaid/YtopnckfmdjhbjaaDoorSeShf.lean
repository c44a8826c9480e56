/- A bracket with one byte more ahead; with other bytes behind. -/
import Derived.Test.YtopnckfmdjhbjaaDoorSeBrx
namespace Go.Proofs.YtopnckfmdjhbjaaDoor
open Go.RowKit

/-! ### One byte more ahead -/
structure Up (s s' : ByteArray) : Prop where
  size : s'.size = s.size + 1
  at' : ∀ j, atB s' (j + 1) = atB s j
  cut : ∀ a b, s'.extract (a + 1) (b + 1) = s.extract a b
def IR.up : IR → IR
  | .bad pos => .bad (pos + 1)
  | .cls p nx => .cls p (nx + 1)
  | .byt c nx => .byt c (nx + 1)
def PR.up : PR → PR
  | .bad c pos => .bad c (pos + 1)
  | .ok p nx => .ok p (nx + 1)
def BR.up : BR → BR
  | .bad c pos => .bad c (pos + 1)
  | .ok p nx => .ok p (nx + 1)
theorem cnE_up {s s' : ByteArray} (h : Up s s') : ∀ n k, cnE s' n (k + 1) = (cnE s n k).map (· + 1) := by
  intro n
  induction n with
  | zero => intro k; rfl
  | succ n ih =>
    intro k
    unfold cnE
    rw [h.at' k, show k + 1 + 1 = (k + 1) + 1 from rfl, h.at' (k + 1), ih (k + 1)]
    split <;> rfl
theorem itemR_up (cf : ByteArray → (Nat → Bool) × Bool) {s s' : ByteArray} (h : Up s s') (g : Bool) (k : Nat) : itemR cf s' g (k + 1) = (itemR cf s g k).up := by
  unfold itemR
  have e1 := h.at' k
  have e2 : atB s' (k + 1 + 1) = atB s (k + 1) := h.at' (k + 1)
  have e3 : s'.size - (k + 1 + 2) = s.size - (k + 2) := by rw [h.size]; omega
  have e4 : cnE s' (s.size - (k + 2)) (k + 1 + 2) = (cnE s (s.size - (k + 2)) (k + 2)).map (· + 1) := cnE_up h _ (k + 2)
  rw [e1, e2, e3, e4, h.size]
  by_cases c1 : atB s k = 91 ∧ atB s (k + 1) = 58
  · rw [if_pos c1, if_pos c1]
    cases hE : cnE s (s.size - (k + 2)) (k + 2) with
    | none => rfl
    | some y =>
      have e5 : s'.extract (k + 1 + 2) (y + 1) = s.extract (k + 2) y := h.cut (k + 2) y
      simp only [Option.map_some]
      rw [e5]
      split <;> rfl
  · rw [if_neg c1, if_neg c1]
    by_cases c2 : atB s k = 91 ∧ (atB s (k + 1) = 46 ∨ atB s (k + 1) = 61)
    · rw [if_pos c2, if_pos c2]; rfl
    · rw [if_neg c2, if_neg c2]
      by_cases c3 : g = true ∧ atB s k = 92
      · rw [if_pos c3, if_pos c3]
        by_cases c4 : k + 1 < s.size
        · rw [if_pos c4, if_pos (by omega)]; rfl
        · rw [if_neg c4, if_neg (by omega)]; rfl
      · rw [if_neg c3, if_neg c3]
        by_cases c4 : k < s.size
        · rw [if_pos c4, if_pos (by omega)]; rfl
        · rw [if_neg c4, if_neg (by omega)]; rfl
theorem partR_up (cf : ByteArray → (Nat → Bool) × Bool) {s s' : ByteArray} (h : Up s s') (g : Bool) (k : Nat) : partR cf s' g (k + 1) = (partR cf s g k).up := by
  unfold partR
  rw [itemR_up cf h g k]
  cases h1 : itemR cf s g k with
  | bad pos => rfl
  | cls p nx => rfl
  | byt c nx =>
    have e1 := h.at' nx
    have e2 : atB s' (nx + 1 + 1) = atB s (nx + 1) := h.at' (nx + 1)
    have e3 : itemR cf s' g (nx + 1 + 1) = (itemR cf s g (nx + 1)).up := itemR_up cf h g (nx + 1)
    simp only [IR.up]
    rw [e1, e2, e3]
    by_cases c1 : atB s nx = 45 ∧ ¬ atB s (nx + 1) = 93
    · rw [if_pos c1, if_pos c1]
      cases h2 : itemR cf s g (nx + 1) with
      | bad pos => rfl
      | cls p n2 => rfl
      | byt d n2 =>
        simp only [IR.up]
        split <;> rfl
    · rw [if_neg c1, if_neg c1]; rfl
theorem brkL_up (cf : ByteArray → (Nat → Bool) × Bool) {s s' : ByteArray} (h : Up s s') (g : Bool) : ∀ (n k : Nat) (f : Bool) (p : Nat → Bool), k ≤ s.size → s.size + 1 - k ≤ n → brkL cf s' g n (k + 1) f p = (brkL cf s g n k f p).up := by
  intro n
  induction n with
  | zero => intro k f p h1 h2; omega
  | succ n ih =>
    intro k f p h1 h2
    unfold brkL
    rw [h.at' k, partR_up cf h g k]
    by_cases c1 : f = false ∧ atB s k = 93
    · rw [if_pos c1, if_pos c1]; rfl
    · rw [if_neg c1, if_neg c1]
      cases hp : partR cf s g k with
      | bad c pos => rfl
      | ok q nx =>
        have := partR_next hp
        simp only [PR.up]
        exact ih nx false _ (by omega) (by omega)
theorem up_cons (l : List Int) (c : Int) (hl : Byt l) (hc : 0 ≤ c ∧ c ≤ 255) : Up (ofBys l) (ofBys (c :: l)) := by
  have hb : Byt (c :: l) := fun i => by
    cases i with
    | zero => simpa using hc
    | succ i => simpa using hl i
  refine ⟨by simp [ofBys_size], fun j => ?_, fun a b => ?_⟩
  · unfold atB
    rw [bys_ofBys hb, bys_ofBys hl]
    simp
  · apply bys_inj
    rw [bys_extract, bys_extract, bys_ofBys hb, bys_ofBys hl, List.drop_succ_cons, Nat.add_sub_add_right]

/-! ### Other bytes behind -/
structure Agr (s s' : ByteArray) (m : Nat) : Prop where
  at' : ∀ j, j < m → atB s' j = atB s j
  le : m ≤ s.size
  le' : m ≤ s'.size
  cut : ∀ a b, b ≤ m → s'.extract a b = s.extract a b
theorem cnE_agr {s s' : ByteArray} {m : Nat} (h : Agr s s' m) : ∀ n n' k y, cnE s n k = some y → y + 2 ≤ m → y - k < n' → k ≤ y → cnE s' n' k = some y := by
  intro n
  induction n with
  | zero => intro n' k y h1; cases h1
  | succ n ih =>
    intro n' k y h1 h2 h3 h4
    obtain ⟨n', rfl⟩ : ∃ j, n' = j + 1 := ⟨n' - 1, by omega⟩
    unfold cnE at h1 ⊢
    rw [h.at' k (by omega)]
    by_cases hk : k = y
    · subst hk
      rw [h.at' (k + 1) (by omega)]
      split at h1
      · rename_i hh; rw [if_pos hh]
      · exfalso
        have key : ∀ n j x, cnE s n j = some x → j ≤ x := by
          intro n
          induction n with
          | zero => intro j x h; cases h
          | succ n ih =>
            intro j x h
            unfold cnE at h
            split at h
            · have := Option.some.inj h; omega
            · have := ih _ _ h; omega
        have := key _ _ _ h1
        omega
    · rw [h.at' (k + 1) (by omega)]
      split at h1
      · have := Option.some.inj h1; omega
      · rename_i hh
        rw [if_neg hh]
        exact ih n' (k + 1) y h1 h2 (by omega) (by omega)
theorem cnE_ge {s : ByteArray} : ∀ n k y, cnE s n k = some y → k ≤ y := by
  intro n
  induction n with
  | zero => intro k y h; cases h
  | succ n ih =>
    intro k y h
    unfold cnE at h
    split at h
    · have := Option.some.inj h; omega
    · have := ih _ _ h; omega
theorem itemR_cls_agr (cf : ByteArray → (Nat → Bool) × Bool) {s s' : ByteArray} {m : Nat} (h : Agr s s' m) {g : Bool} {k : Nat} {p : Nat → Bool} {nx : Nat} (hr : itemR cf s g k = .cls p nx) (hm : nx < m) : itemR cf s' g k = .cls p nx := by
  have hn := itemR_next hr
  unfold itemR at hr ⊢
  rw [h.at' k (by omega), h.at' (k + 1) (by omega)]
  split at hr
  · rename_i c1
    rw [if_pos c1]
    cases hE : cnE s (s.size - (k + 2)) (k + 2) with
    | none => rw [hE] at hr; cases hr
    | some y =>
      rw [hE] at hr
      simp only at hr
      have hy := cnE_ge _ _ _ hE
      split at hr
      · rename_i c2
        have e : y + 2 = nx := by injection hr
        have hl := h.le'
        rw [cnE_agr h _ (s'.size - (k + 2)) _ y hE (by omega) (by omega) hy]
        simp only
        rw [h.cut (k + 2) y (by omega), if_pos c2]
        exact hr
      · cases hr
  · split at hr
    · cases hr
    · split at hr
      · split at hr <;> cases hr
      · split at hr <;> cases hr
theorem itemR_byt_agr (cf : ByteArray → (Nat → Bool) × Bool) {s s' : ByteArray} {m : Nat} (h : Agr s s' m) {g : Bool} {k : Nat} {c : Int} {nx : Nat} (hr : itemR cf s g k = .byt c nx) (hm : nx < m) : itemR cf s' g k = .byt c nx := by
  have hn := (itemR_byte hr).2
  have hl := h.le'
  unfold itemR at hr ⊢
  rw [h.at' k (by omega), h.at' (k + 1) (by omega)]
  split at hr
  · split at hr
    · cases hr
    · split at hr <;> cases hr
  · rename_i c1
    rw [if_neg c1]
    split at hr
    · cases hr
    · rename_i c2
      rw [if_neg c2]
      split at hr
      · rename_i c3
        rw [if_pos c3]
        split at hr
        · have e : k + 2 = nx := by injection hr
          rw [if_pos (by omega)]
          exact hr
        · cases hr
      · rename_i c3
        rw [if_neg c3]
        split at hr
        · rw [if_pos (by omega)]
          exact hr
        · cases hr
theorem partR_agr (cf : ByteArray → (Nat → Bool) × Bool) {s s' : ByteArray} {m : Nat} (h : Agr s s' m) {g : Bool} {k : Nat} {p : Nat → Bool} {nx : Nat} (hr : partR cf s g k = .ok p nx) (hm : nx < m) (hd : atB s nx = 45 → nx + 1 < m) : partR cf s' g k = .ok p nx := by
  have hn := partR_next hr
  unfold partR at hr ⊢
  cases h1 : itemR cf s g k with
  | bad pos => rw [h1] at hr; cases hr
  | cls q n1 =>
    rw [h1] at hr
    simp only at hr
    have e : n1 = nx := by injection hr
    rw [itemR_cls_agr cf h h1 (by omega)]
    exact hr
  | byt c n1 =>
    rw [h1] at hr
    simp only at hr
    have b1 := (itemR_byte h1).2
    by_cases c1 : atB s n1 = 45 ∧ ¬ atB s (n1 + 1) = 93
    · rw [if_pos c1] at hr
      cases h2 : itemR cf s g (n1 + 1) with
      | bad pos => rw [h2] at hr; cases hr
      | cls q n2 => rw [h2] at hr; cases hr
      | byt d n2 =>
        rw [h2] at hr
        simp only at hr
        have b2 := (itemR_byte h2).2
        split at hr
        · cases hr
        · rename_i c2
          have e : n2 = nx := by injection hr
          rw [itemR_byt_agr cf h h1 (by omega)]
          simp only
          rw [h.at' n1 (by omega), h.at' (n1 + 1) (by omega), if_pos c1, itemR_byt_agr cf h h2 (by omega)]
          simp only
          rw [if_neg c2]
          exact hr
    · rw [if_neg c1] at hr
      have e : n1 = nx := by injection hr
      subst e
      rw [itemR_byt_agr cf h h1 hm]
      simp only
      rw [h.at' n1 hm]
      by_cases h45 : atB s n1 = 45
      · rw [h.at' (n1 + 1) (hd h45), if_neg c1]
        exact hr
      · rw [if_neg (fun hh => h45 hh.1)]
        exact hr
theorem brkL_gt (cf : ByteArray → (Nat → Bool) × Bool) {s : ByteArray} {g : Bool} : ∀ (n k : Nat) (f : Bool) (p q : Nat → Bool) (m : Nat), brkL cf s g n k f p = .ok q m → k < m ∧ m ≤ s.size ∧ (¬ (f = false ∧ atB s k = 93) → k + 1 < m) := by
  intro n
  induction n with
  | zero => intro k f p q m h; cases h
  | succ n ih =>
    intro k f p q m h
    unfold brkL at h
    split at h
    · rename_i c1
      have e : k + 1 = m := by injection h
      have := atB_in (s := s) (k := k) (by rw [c1.2]; decide)
      exact ⟨by omega, by omega, fun hh => absurd c1 hh⟩
    · cases hp : partR cf s g k with
      | bad c pos => rw [hp] at h; cases h
      | ok r nx =>
        rw [hp] at h
        simp only at h
        have b1 := partR_next hp
        have b2 := ih nx false _ q m h
        exact ⟨by omega, b2.2.1, fun _ => by omega⟩
theorem brkL_agr (cf : ByteArray → (Nat → Bool) × Bool) {s s' : ByteArray} {m : Nat} (ha : Agr s s' m) {g : Bool} : ∀ (n n' k : Nat) (f : Bool) (p q : Nat → Bool), brkL cf s g n k f p = .ok q m → m - k ≤ n' → brkL cf s' g n' k f p = .ok q m := by
  intro n
  induction n with
  | zero => intro n' k f p q h; cases h
  | succ n ih =>
    intro n' k f p q h hn
    have hgt := brkL_gt cf _ _ _ _ _ _ h
    obtain ⟨n', rfl⟩ : ∃ j, n' = j + 1 := ⟨n' - 1, by omega⟩
    unfold brkL at h ⊢
    rw [ha.at' k hgt.1]
    split at h
    · rename_i c1
      rw [if_pos c1]
      exact h
    · rename_i c1
      rw [if_neg c1]
      cases hp : partR cf s g k with
      | bad c pos => rw [hp] at h; cases h
      | ok r nx =>
        rw [hp] at h
        simp only at h
        have b1 := partR_next hp
        have b2 := brkL_gt cf _ _ _ _ _ _ h
        rw [partR_agr cf ha hp b2.1 (fun h45 => b2.2.2 (fun hh => by rw [h45] at hh; exact absurd hh.2 (by decide)))]
        simp only
        exact ih n' nx false _ q h (by omega)
theorem agr_take (l r : List Int) (m : Nat) (hl : Byt l) (hr : Byt r) (hm : m ≤ l.length) : Agr (ofBys l) (ofBys (l.take m ++ r)) m := by
  have hb : Byt (l.take m ++ r) := byt_app (fun i => by
    by_cases hi : i < m
    · have := hl i
      simpa [List.getD, List.getElem?_take, hi] using this
    · simp [List.getD, List.getElem?_take, hi]) hr
  have hlen : (l.take m).length = m := by rw [List.length_take]; omega
  refine ⟨fun j hj => ?_, by rw [ofBys_size]; exact hm, by rw [ofBys_size, List.length_append]; omega, fun a b hb' => ?_⟩
  · unfold atB
    rw [bys_ofBys hb, bys_ofBys hl]
    simp only [List.getD, List.getElem?_append, hlen, if_pos hj, List.getElem?_take]
  · apply bys_inj
    rw [bys_extract, bys_extract, bys_ofBys hb, bys_ofBys hl]
    apply List.ext_getElem?
    intro i
    rw [List.getElem?_take, List.getElem?_take, List.getElem?_drop, List.getElem?_drop]
    by_cases hi : i < b - a
    · rw [if_pos hi, if_pos hi, List.getElem?_append, hlen, if_pos (by omega), List.getElem?_take, if_pos (by omega)]
    · rw [if_neg hi, if_neg hi]

/-- A bracket that begins with neither ^ nor !: its two sides. -/
theorem brkR_plain (cf : ByteArray → (Nat → Bool) × Bool) (s : ByteArray) (g : Bool) (h1 : ¬ atB s 0 = 94) (h2 : ¬ atB s 0 = 33) : brkR cf s g 0 = brkT false (brkL cf s g (s.size + 1) 0 true noP) := by
  unfold brkR
  rw [if_neg (fun h => h.elim h1 fun h => h2 h.2)]
  rfl
theorem brkR_hat (cf : ByteArray → (Nat → Bool) × Bool) (l : List Int) (g : Bool) (hl : Byt l) : brkR cf (ofBys (94 :: l)) g 0 = brkT true (brkL cf (ofBys l) g ((ofBys l).size + 1) 0 true noP).up := by
  have hu := up_cons l 94 hl (by omega)
  unfold brkR
  have h0 : atB (ofBys (94 :: l)) 0 = 94 := by
    unfold atB
    rw [bys_ofBys (fun i => by cases i with | zero => simp | succ i => simpa using hl i)]
    rfl
  rw [if_pos (Or.inl h0), hu.size, show (ofBys l).size + 1 + 1 - (0 + 1) = (ofBys l).size + 1 by omega, brkL_up cf hu g _ 0 true noP (by omega) (by omega)]
/-- The same with other bytes behind. -/
theorem brkR_more (cf : ByteArray → (Nat → Bool) × Bool) (l r : List Int) (g : Bool) (hl : Byt l) (hr : Byt r) (h1 : ¬ atB (ofBys l) 0 = 94) (h2 : ¬ atB (ofBys l) 0 = 33) {q : Nat → Bool} {m : Nat} (h : brkL cf (ofBys l) g ((ofBys l).size + 1) 0 true noP = .ok q m) :
    brkR cf (ofBys (l.take m ++ r)) g 0 = .ok q m ∧ m ≤ l.length := by
  have hgt := brkL_gt cf _ _ _ _ _ _ h
  have hm : m ≤ l.length := by have := hgt.2.1; rwa [ofBys_size] at this
  have ha := agr_take l r m hl hr hm
  have e0 : atB (ofBys (l.take m ++ r)) 0 = atB (ofBys l) 0 := ha.at' 0 hgt.1
  rw [brkR_plain cf _ g (by rw [e0]; exact h1) (by rw [e0]; exact h2), brkL_agr cf ha _ ((ofBys (l.take m ++ r)).size + 1) 0 true noP q h (by have := ha.le'; omega)]
  exact ⟨rfl, hm⟩
end Go.Proofs.YtopnckfmdjhbjaaDoor
