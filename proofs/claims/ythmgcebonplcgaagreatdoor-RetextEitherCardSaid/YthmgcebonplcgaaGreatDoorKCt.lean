/- KCt: several texts in one (kmerge.py). -/
import Derived.Test.YthmgcebonplcgaaGreatDoorKPu
import Derived.Test.YthmgcebonplcgaaGreatDoorSeCxB
/- Two texts with a bar between: brackets, numbers, signs ahead of the bar (pure). -/
namespace Go.Proofs.YthmgcebonplcgaaGreatDoor
open Go.RowKit

/-- No class has a bar in its name. -/
def NoBar (cf : ByteArray → (Nat → Bool) × Bool) : Prop := ∀ nm, 124 ∈ bys nm → (cf nm).2 = false

theorem getD_lt {a : List Int} (b : List Int) {i : Nat} (h : i < a.length) : (a ++ b).getD i 0 = a.getD i 0 := by
  simp [List.getD, List.getElem?_append_left h]
theorem getD_ge {a : List Int} (b : List Int) {i : Nat} : (a ++ b).getD (a.length + i) 0 = b.getD i 0 := by
  simp [List.getD, List.getElem?_append_right]
/-- The text with a bar and more behind. -/
structure Bar (s s' : ByteArray) : Prop where
  at' : ∀ j, j < s.size → atB s' j = atB s j
  bar : atB s' s.size = 124
  lt : s.size < s'.size
theorem bar_of {t r : List Int} (ht : Byt t) (hr : Byt r) : Bar (ofBys t) (ofBys (t ++ 124 :: r)) := by
  have hb : Byt (t ++ 124 :: r) := byt_app ht fun i => by
    cases i with
    | zero => simp
    | succ i => simpa using hr i
  refine ⟨fun j hj => ?_, ?_, ?_⟩
  · rw [ofBys_size] at hj
    unfold atB
    rw [bys_ofBys ht, bys_ofBys hb, getD_lt _ hj]
  · unfold atB
    rw [bys_ofBys hb, ofBys_size]
    exact getD_ge (a := t) (124 :: r) (i := 0)
  · rw [ofBys_size, ofBys_size, List.length_append]
    simp
theorem Bar.agr {s s' : ByteArray} (h : Bar s s') {m : Nat} (hm : m ≤ s.size) : Agr s s' m := by
  refine ⟨fun j hj => h.at' j (by omega), hm, by have := h.lt; omega, fun a b hb => ?_⟩
  apply bys_inj
  rw [bys_extract, bys_extract]
  apply List.ext_getElem?
  intro i
  rw [List.getElem?_take, List.getElem?_take, List.getElem?_drop, List.getElem?_drop]
  by_cases hi : i < b - a
  · rw [if_pos hi, if_pos hi]
    have h1 := h.at' (a + i) (by omega)
    unfold atB at h1
    have l1 := bys_length s
    have l2 := bys_length s'
    have := h.lt
    rw [List.getD, List.getD, List.getElem?_eq_getElem (by omega), List.getElem?_eq_getElem (by omega)] at h1
    rw [List.getElem?_eq_getElem (by omega), List.getElem?_eq_getElem (by omega)]
    simpa using h1
  · rw [if_neg hi, if_neg hi]
theorem cnE_at {s : ByteArray} : ∀ n k y, cnE s n k = some y → k ≤ y ∧ y < k + n ∧ atB s y = 58 ∧ atB s (y + 1) = 93 := by
  intro n
  induction n with
  | zero => intro k y h; cases h
  | succ n ih =>
    intro k y h
    unfold cnE at h
    split at h
    · rename_i hh
      have e := Option.some.inj h
      subst e
      exact ⟨Nat.le_refl _, by omega, hh⟩
    · have := ih _ _ h
      exact ⟨by omega, by omega, this.2.2⟩
theorem cnE_none {s : ByteArray} : ∀ n k, cnE s n k = none → ∀ y, k ≤ y → y < k + n → ¬ (atB s y = 58 ∧ atB s (y + 1) = 93) := by
  intro n
  induction n with
  | zero => intro k h y h1 h2; omega
  | succ n ih =>
    intro k h y h1 h2
    unfold cnE at h
    split at h
    · cases h
    · rename_i hh
      by_cases e : k = y
      · subst e; exact hh
      · exact ih _ h y (by omega) (by omega)
theorem itemR_bad_bar {cf : ByteArray → (Nat → Bool) × Bool} (hcf : NoBar cf) {s s' : ByteArray} (h : Bar s s') {k pos : Nat} (hk : k ≤ s.size) (hr : itemR cf s false k = .bad pos) : pos = s.size ∨ itemR cf s' false k = .bad pos := by
  by_cases hk2 : k = s.size
  · subst hk2
    left
    unfold itemR at hr
    rw [if_neg (fun hh => by rw [atB_out (Nat.le_refl _)] at hh; exact absurd hh.1 (by decide)), if_neg (fun hh => by rw [atB_out (Nat.le_refl _)] at hh; exact absurd hh.1 (by decide)), if_neg (by simp), if_neg (by omega)] at hr
    cases hr
    rfl
  have hkl : k < s.size := by omega
  have e0 := h.at' k hkl
  by_cases hk1 : k + 1 = s.size
  · -- the last byte: no item is bad there
    exfalso
    unfold itemR at hr
    rw [if_neg (fun hh => by rw [hk1, atB_out (Nat.le_refl _)] at hh; exact absurd hh.2 (by decide)), if_neg (fun hh => by rw [hk1, atB_out (Nat.le_refl _)] at hh; exact absurd hh.2 (by decide)), if_neg (by simp), if_pos hkl] at hr
    cases hr
  have e1 := h.at' (k + 1) (by omega)
  right
  unfold itemR at hr ⊢
  rw [e0, e1]
  by_cases c1 : atB s k = 91 ∧ atB s (k + 1) = 58
  · rw [if_pos c1] at hr ⊢
    cases hE : cnE s (s.size - (k + 2)) (k + 2) with
    | none =>
      rw [hE] at hr
      simp only at hr
      have e : k = pos := by injection hr
      subst e
      cases hE' : cnE s' (s'.size - (k + 2)) (k + 2) with
      | none => rfl
      | some y =>
        simp only
        have hy := cnE_at _ _ _ hE'
        have hn := cnE_none _ _ hE y hy.1
        have hin : 124 ∈ bys (s'.extract (k + 2) y) := by
          have hys : s.size < y := by
            rcases Nat.lt_trichotomy y s.size with g | g | g
            · exfalso
              rcases Nat.lt_or_ge (y + 1) s.size with g2 | g2
              · exact hn (by omega) ⟨by rw [← h.at' y g]; exact hy.2.2.1, by rw [← h.at' (y + 1) g2]; exact hy.2.2.2⟩
              · have : y + 1 = s.size := by omega
                rw [this, h.bar] at hy
                exact absurd hy.2.2.2 (by decide)
            · rw [g, h.bar] at hy
              exact absurd hy.2.2.1 (by decide)
            · exact g
          rw [bys_extract]
          have hb := h.bar
          unfold atB at hb
          have l2 := bys_length s'
          have := h.lt
          rw [List.getD, List.getElem?_eq_getElem (by omega)] at hb
          simp only [Option.getD_some] at hb
          rw [List.mem_iff_getElem?]
          refine ⟨s.size - (k + 2), ?_⟩
          rw [List.getElem?_take, if_pos (by omega), List.getElem?_drop, List.getElem?_eq_getElem (by omega)]
          congr 1
          have e2 : k + 2 + (s.size - (k + 2)) = s.size := by omega
          simp only [e2]
          exact hb
        rw [if_neg (by rw [hcf _ hin]; decide)]
    | some y =>
      rw [hE] at hr
      simp only at hr
      have hy := cnE_at _ _ _ hE
      have hys : y + 1 < s.size := by
        have := atB_in (s := s) (k := y + 1) (by rw [hy.2.2.2]; decide)
        exact this
      have ha := h.agr (m := s.size) (Nat.le_refl _)
      have hl := h.lt
      rw [cnE_agr ha _ (s'.size - (k + 2)) _ y hE (by omega) (by omega) hy.1]
      simp only
      rw [ha.cut (k + 2) y (by omega)]
      exact hr
  · rw [if_neg c1] at hr ⊢
    by_cases c2 : atB s k = 91 ∧ (atB s (k + 1) = 46 ∨ atB s (k + 1) = 61)
    · rw [if_pos c2] at hr ⊢; exact hr
    · rw [if_neg c2, if_neg (by simp), if_pos hkl] at hr
      cases hr
theorem itemR_byt_bar {cf : ByteArray → (Nat → Bool) × Bool} {s s' : ByteArray} (h : Bar s s') {k nx : Nat} {c : Int} (hr : itemR cf s false k = .byt c nx) : itemR cf s' false k = .byt c nx := by
  have hn := (itemR_byte hr).2
  have hkl : k < s.size := by omega
  have e0 := h.at' k hkl
  have hl := h.lt
  unfold itemR at hr ⊢
  rw [e0]
  have c1 : ¬ (atB s k = 91 ∧ atB s (k + 1) = 58) := fun hh => by
    rw [if_pos hh] at hr
    split at hr
    · cases hr
    · split at hr <;> cases hr
  rw [if_neg c1] at hr
  have c2 : ¬ (atB s k = 91 ∧ (atB s (k + 1) = 46 ∨ atB s (k + 1) = 61)) := fun hh => by rw [if_pos hh] at hr; cases hr
  rw [if_neg c2] at hr
  have e1 : atB s' (k + 1) = atB s (k + 1) ∨ atB s' (k + 1) = 124 := by
    rcases Nat.lt_or_ge (k + 1) s.size with g | g
    · exact Or.inl (h.at' _ g)
    · right
      have : k + 1 = s.size := by omega
      rw [this]; exact h.bar
  have d1 : ¬ (atB s k = 91 ∧ atB s' (k + 1) = 58) := fun hh => by
    rcases e1 with e | e
    · exact c1 ⟨hh.1, by rw [← e]; exact hh.2⟩
    · rw [e] at hh; exact absurd hh.2 (by decide)
  have d2 : ¬ (atB s k = 91 ∧ (atB s' (k + 1) = 46 ∨ atB s' (k + 1) = 61)) := fun hh => by
    rcases e1 with e | e
    · exact c2 ⟨hh.1, by rw [← e]; exact hh.2⟩
    · rw [e] at hh; exact absurd hh.2 (by decide)
  rw [if_neg d1, if_neg d2, if_neg (by simp), if_pos (by omega)]
  rw [if_neg (by simp), if_pos hkl] at hr
  exact hr
theorem itemR_cls_bar {cf : ByteArray → (Nat → Bool) × Bool} {s s' : ByteArray} (h : Bar s s') {k nx : Nat} {p : Nat → Bool} (hr : itemR cf s false k = .cls p nx) : itemR cf s' false k = .cls p nx := by
  have hn := itemR_next hr
  have hl := h.lt
  have hkl : k < s.size := by omega
  unfold itemR at hr ⊢
  by_cases c1 : atB s k = 91 ∧ atB s (k + 1) = 58
  · have h1 := atB_in (s := s) (k := k + 1) (by rw [c1.2]; decide)
    rw [h.at' k hkl, h.at' (k + 1) h1]
    rw [if_pos c1] at hr ⊢
    cases hE : cnE s (s.size - (k + 2)) (k + 2) with
    | none => rw [hE] at hr; cases hr
    | some y =>
      rw [hE] at hr
      simp only at hr
      have hy := cnE_at _ _ _ hE
      have hys := atB_in (s := s) (k := y + 1) (by rw [hy.2.2.2]; decide)
      have ha := h.agr (m := s.size) (Nat.le_refl _)
      rw [cnE_agr ha _ (s'.size - (k + 2)) _ y hE (by omega) (by omega) hy.1]
      simp only
      rw [ha.cut (k + 2) y (by omega)]
      exact hr
  · rw [if_neg c1] at hr
    by_cases c2 : atB s k = 91 ∧ (atB s (k + 1) = 46 ∨ atB s (k + 1) = 61)
    · rw [if_pos c2] at hr; cases hr
    · rw [if_neg c2, if_neg (by simp), if_pos hkl] at hr; cases hr
theorem partR_bar {cf : ByteArray → (Nat → Bool) × Bool} (hcf : NoBar cf) {s s' : ByteArray} (h : Bar s s') {k : Nat} (hk : k ≤ s.size) :
    (∀ p nx, partR cf s false k = .ok p nx → partR cf s' false k = .ok p nx) ∧ (∀ c pos, partR cf s false k = .bad c pos → pos = s.size ∨ partR cf s' false k = .bad c pos) := by
  unfold partR
  cases h1 : itemR cf s false k with
  | bad ps =>
    refine ⟨fun p nx e => (by cases e), fun c pos e => ?_⟩
    cases e
    rcases itemR_bad_bar hcf h hk h1 with g | g
    · exact Or.inl g
    · right; rw [g]
  | cls q n1 =>
    refine ⟨fun p nx e => ?_, fun c pos e => (by cases e)⟩
    rw [itemR_cls_bar h h1]; exact e
  | byt c0 n1 =>
    have b1 := (itemR_byte h1).2
    rw [itemR_byt_bar h h1]
    simp only
    by_cases hn : n1 = s.size
    · have e1 : atB s n1 = 0 := atB_out (by omega)
      have e2 : atB s' n1 = 124 := by rw [hn]; exact h.bar
      rw [if_neg (fun hh => by rw [e1] at hh; exact absurd hh.1 (by decide)), if_neg (fun hh => by rw [e2] at hh; exact absurd hh.1 (by decide))]
      exact ⟨fun p nx e => e, fun c pos e => (by cases e)⟩
    · have e1 := h.at' n1 (by omega)
      rw [e1]
      by_cases hn2 : n1 + 1 = s.size
      · have e2 : atB s (n1 + 1) = 0 := atB_out (by omega)
        have e3 : atB s' (n1 + 1) = 124 := by rw [hn2]; exact h.bar
        rw [e2, e3]
        by_cases c1 : atB s n1 = 45
        · rw [if_pos ⟨c1, by decide⟩]
          cases h2 : itemR cf s false (n1 + 1) with
          | bad ps =>
            refine ⟨fun p nx e => (by cases e), fun c pos e => ?_⟩
            cases e
            rw [hn2] at h2
            unfold itemR at h2
            rw [if_neg (fun hh => by rw [atB_out (Nat.le_refl _)] at hh; exact absurd hh.1 (by decide)), if_neg (fun hh => by rw [atB_out (Nat.le_refl _)] at hh; exact absurd hh.1 (by decide)), if_neg (by simp), if_neg (by omega)] at h2
            cases h2
            exact Or.inl rfl
          | cls q n2 => exact absurd (itemR_next h2) (by omega)
          | byt d n2 => exact absurd (itemR_byte h2).2 (by omega)
        · rw [if_neg (fun hh => c1 hh.1), if_neg (fun hh => c1 hh.1)]
          exact ⟨fun p nx e => e, fun c pos e => (by cases e)⟩
      · rw [h.at' (n1 + 1) (by omega)]
        by_cases c1 : atB s n1 = 45 ∧ ¬ atB s (n1 + 1) = 93
        · rw [if_pos c1, if_pos c1]
          cases h2 : itemR cf s false (n1 + 1) with
          | bad ps =>
            refine ⟨fun p nx e => (by cases e), fun c pos e => ?_⟩
            cases e
            rcases itemR_bad_bar hcf h (by omega) h2 with g | g
            · exact Or.inl g
            · right; rw [g]
          | cls q n2 =>
            rw [itemR_cls_bar h h2]
            exact ⟨fun p nx e => e, fun c pos e => Or.inr e⟩
          | byt d n2 =>
            rw [itemR_byt_bar h h2]
            exact ⟨fun p nx e => e, fun c pos e => Or.inr e⟩
        · rw [if_neg c1, if_neg c1]
          exact ⟨fun p nx e => e, fun c pos e => Or.inr e⟩
theorem brkL_bar {cf : ByteArray → (Nat → Bool) × Bool} (hcf : NoBar cf) {s s' : ByteArray} (h : Bar s s') : ∀ (n n' k : Nat) (f : Bool) (p : Nat → Bool) (c pos : Nat), k ≤ s.size → s.size + 1 - k ≤ n → s'.size + 1 - k ≤ n' → brkL cf s false n k f p = .bad c pos → pos = s.size ∨ brkL cf s' false n' k f p = .bad c pos := by
  intro n
  induction n with
  | zero => intro n' k f p c pos hk h1; omega
  | succ n ih =>
    intro n' k f p c pos hk h1 h2 hr
    have hl := h.lt
    obtain ⟨n', rfl⟩ : ∃ j, n' = j + 1 := ⟨n' - 1, by omega⟩
    have hp := partR_bar hcf h hk
    unfold brkL at hr ⊢
    by_cases c1 : f = false ∧ atB s k = 93
    · rw [if_pos c1] at hr; cases hr
    rw [if_neg c1] at hr
    have c2 : ¬ (f = false ∧ atB s' k = 93) := fun hh => by
      rcases Nat.lt_or_ge k s.size with g | g
      · exact c1 ⟨hh.1, by rw [← h.at' k g]; exact hh.2⟩
      · have : k = s.size := by omega
        rw [this, h.bar] at hh
        exact absurd hh.2 (by decide)
    rw [if_neg c2]
    cases hq : partR cf s false k with
    | bad c' ps =>
      rw [hq] at hr
      cases hr
      rcases hp.2 _ _ hq with g | g
      · exact Or.inl g
      · right; rw [g]
    | ok q nx =>
      rw [hq] at hr
      simp only at hr
      rw [hp.1 _ _ hq]
      simp only
      have b1 := partR_next hq
      exact ih n' nx false _ c pos b1.1 (by omega) (by omega) hr
theorem brkR_bar_bad {cf : ByteArray → (Nat → Bool) × Bool} (hcf : NoBar cf) {s s' : ByteArray} (h : Bar s s') {c pos : Nat} (hr : brkR cf s false 0 = .bad c pos) : pos = s.size ∨ brkR cf s' false 0 = .bad c pos := by
  have hl := h.lt
  unfold brkR at hr ⊢
  by_cases h0 : s.size = 0
  · have e0 : atB s 0 = 0 := atB_out (by omega)
    rw [if_neg (by rw [e0]; simp)] at hr
    have e : s.size + 1 - 0 = 0 + 1 := by omega
    rw [e] at hr
    unfold brkL at hr
    rw [if_neg (by simp)] at hr
    have hi : itemR cf s false 0 = .bad 0 := by
      unfold itemR
      rw [if_neg (fun hh => by rw [e0] at hh; exact absurd hh.1 (by decide)), if_neg (fun hh => by rw [e0] at hh; exact absurd hh.1 (by decide)), if_neg (by simp), if_neg (by omega)]
    have hp : partR cf s false 0 = .bad 8 0 := by unfold partR; rw [hi]
    rw [hp] at hr
    have e2 : 0 = pos := by injection hr
    left; omega
  have e0 := h.at' 0 (by omega)
  rw [e0]
  by_cases c1 : atB s 0 = 94 ∨ (false = true ∧ atB s 0 = 33)
  · rw [if_pos c1] at hr ⊢
    cases hb : brkL cf s false (s.size + 1 - (0 + 1)) (0 + 1) true noP with
    | ok q m => rw [hb] at hr; cases hr
    | bad c' ps =>
      rw [hb] at hr
      cases hr
      rcases brkL_bar hcf h _ (s'.size + 1 - (0 + 1)) _ _ _ _ _ (by omega) (by omega) (by omega) hb with g | g
      · exact Or.inl g
      · right; rw [g]; rfl
  · rw [if_neg c1] at hr ⊢
    cases hb : brkL cf s false (s.size + 1 - 0) 0 true noP with
    | ok q m => rw [hb] at hr; cases hr
    | bad c' ps =>
      rw [hb] at hr
      cases hr
      rcases brkL_bar hcf h _ (s'.size + 1 - 0) _ _ _ _ _ (by omega) (by omega) (by omega) hb with g | g
      · exact Or.inl g
      · right; rw [g]; rfl
theorem brkR_bar_ok {cf : ByteArray → (Nat → Bool) × Bool} {s s' : ByteArray} (h : Bar s s') {p : Nat → Bool} {nx : Nat} (hr : brkR cf s false 0 = .ok p nx) : brkR cf s' false 0 = .ok p nx := by
  have hl := h.lt
  unfold brkR at hr ⊢
  by_cases c1 : atB s 0 = 94 ∨ (false = true ∧ atB s 0 = 33)
  · rw [if_pos c1] at hr
    have h0 : 0 < s.size := by
      rcases c1 with g | g
      · exact atB_in (by rw [g]; decide)
      · exact absurd g.1 (by decide)
    rw [h.at' 0 h0, if_pos c1]
    cases hb : brkL cf s false (s.size + 1 - (0 + 1)) (0 + 1) true noP with
    | bad c' ps => rw [hb] at hr; cases hr
    | ok q m =>
      rw [hb] at hr
      have hg := brkL_gt cf _ _ _ _ _ _ hb
      rw [brkL_agr cf (h.agr hg.2.1) _ (s'.size + 1 - (0 + 1)) _ _ _ _ hb (by omega)]
      exact hr
  · rw [if_neg c1] at hr
    cases hb : brkL cf s false (s.size + 1 - 0) 0 true noP with
    | bad c' ps => rw [hb] at hr; cases hr
    | ok q m =>
      rw [hb] at hr
      have hg := brkL_gt cf _ _ _ _ _ _ hb
      rw [h.at' 0 (by omega), if_neg c1, brkL_agr cf (h.agr hg.2.1) _ (s'.size + 1 - 0) _ _ _ _ hb (by omega)]
      exact hr
end Go.Proofs.YthmgcebonplcgaaGreatDoor
/- Two texts with a bar between: signs and the reader ahead of the bar (pure). -/
namespace Go.Proofs.YthmgcebonplcgaaGreatDoor
open Go.RowKit

def barL (a b : List Int) : List Int := a ++ 124 :: b
theorem barL_len (a b : List Int) : (barL a b).length = a.length + 1 + b.length := by unfold barL; simp; omega
theorem bar_byt {a b : List Int} (ha : Byt a) (hb : Byt b) : Byt (barL a b) := byt_app ha fun i => by
  cases i with
  | zero => simp
  | succ i => simpa using hb i
theorem bar_lt {a : List Int} (b : List Int) {i : Nat} (h : i < a.length) : (barL a b).getD i 0 = a.getD i 0 := getD_lt _ h
theorem bar_at (a b : List Int) : (barL a b).getD a.length 0 = 124 := by
  have h := getD_ge (a := a) (124 :: b) (i := 0)
  rw [Nat.add_zero] at h
  exact h
theorem bar_drop {a : List Int} (b : List Int) {k : Nat} (h : k ≤ a.length) : (barL a b).drop k = a.drop k ++ 124 :: b := by
  unfold barL
  rw [List.drop_append_of_le_length h]
theorem getD_dropC (l : List Int) (k i : Nat) : l.getD (k + i) 0 = (l.drop k).getD i 0 := by simp [List.getD, List.getElem?_drop]
theorem byt_drop {l : List Int} (h : Byt l) (k : Nat) : Byt (l.drop k) := fun i => by
  rw [← getD_dropC]
  exact h (k + i)
theorem nD_bar {a b : List Int} (ha : Byt a) (hb : Byt b) {k : Nat} (hk : k ≤ a.length) : nD (barL a b) k = nD a k := by
  unfold nD passN
  rw [ofBys_size, ofBys_size]
  obtain ⟨h1, h2, h3⟩ := stopN_is (passB (ofBys a) dgtB true k) (a.length - k)
  have hlen := barL_len a b
  have hat : ∀ i, i < a.length → atB (ofBys (barL a b)) i = atB (ofBys a) i := fun i hi => by
    unfold atB
    rw [bys_ofBys ha, bys_ofBys (bar_byt ha hb), bar_lt b hi]
  have hbar : atB (ofBys (barL a b)) a.length = 124 := by
    unfold atB
    rw [bys_ofBys (bar_byt ha hb), bar_at]
  refine (stopN_is _ _).same ⟨by omega, fun j hj => ?_, fun hlt => ?_⟩
  · have := h2 j hj
    unfold passB at this ⊢
    rw [hat _ (by omega)]
    exact this
  · generalize stopN (passB (ofBys a) dgtB true k) (a.length - k) = j at *
    by_cases hj : j < a.length - k
    · have := h3 hj
      unfold passB at this ⊢
      rw [hat _ (by omega)]
      exact this
    · have e : k + j = a.length := by omega
      unfold passB
      rw [e, hbar]
      rfl
theorem dgs_bar {a b : List Int} (ha : Byt a) (hb : Byt b) {k : Nat} (hk : k ≤ a.length) : dgs (barL a b) k = dgs a k := by
  have h := nD_le a k hk
  unfold dgs
  rw [nD_bar ha hb hk, bar_drop b hk, List.take_append_of_le_length (by rw [List.length_drop]; omega)]
theorem numOk_bar {a b : List Int} (ha : Byt a) (hb : Byt b) {k : Nat} (hk : k ≤ a.length) : numOk (barL a b) k = numOk a k := by
  unfold numOk
  rw [dgs_bar ha hb hk]
theorem numV_bar {a b : List Int} (ha : Byt a) (hb : Byt b) {k : Nat} (hk : k ≤ a.length) : numV (barL a b) k = numV a k := by
  unfold numV
  rw [dgs_bar ha hb hk]
theorem begAt_bar {a : List Int} (b : List Int) {k : Nat} (hk : k ≤ a.length) (c : Int) (hc : c ≠ 124) : begAt (barL a b) k [c] = begAt a k [c] := by
  unfold begAt
  rw [bar_drop b hk]
  cases hd : a.drop k with
  | nil => simp [Ne.symm hc]
  | cons x r => simp
theorem itv_bar {a b : List Int} (ha : Byt a) (hb : Byt b) {k : Nat} (hk : k ≤ a.length) : itv (barL a b) true k = itv a true k := by
  have h1 := nD_le a k hk
  unfold itv
  rw [numOk_bar ha hb hk, nD_bar ha hb hk, numV_bar ha hb hk]
  have e : shutT true = [125] := rfl
  rw [e, begAt_bar b h1 125 (by decide), begAt_bar b h1 44 (by decide)]
  by_cases c1 : numOk a k = false
  · rw [if_pos c1, if_pos c1]
  rw [if_neg c1, if_neg c1]
  by_cases c2 : begAt a (k + nD a k) [125] = true
  · rw [if_pos c2, if_pos c2]
  rw [if_neg c2, if_neg c2]
  by_cases c3 : begAt a (k + nD a k) [44] = false
  · rw [if_pos c3, if_pos c3]
  rw [if_neg c3, if_neg c3]
  have h2 : k + nD a k + 1 ≤ a.length := begAt_le (e := [44]) (by simpa using c3) (by simp)
  have h3 := nD_le a (k + nD a k + 1) h2
  rw [numOk_bar ha hb h2, nD_bar ha hb h2, numV_bar ha hb h2, begAt_bar b h2 125 (by decide), begAt_bar b h3 125 (by decide)]
/-- A text's last byte is no backslash. -/
def NoEsc (a : List Int) : Prop := ∀ k, k + 1 = a.length → a.getD k 0 ≠ 92
theorem sgT_bar {a b : List Int} (hn : NoEsc a) {k : Nat} (hk : k < a.length) : sgT (barL a b) k = sgT a k := by
  have hlen := barL_len a b
  unfold sgT
  rw [if_pos hk, if_pos (by omega), bar_lt b hk]
  by_cases c : a.getD k 0 = 92
  · have h2 : k + 1 < a.length := by
      rcases Nat.lt_or_ge (k + 1) a.length with g | g
      · exact g
      · exact absurd c (hn k (by omega))
    rw [if_pos ⟨c, by omega⟩, if_pos ⟨c, h2⟩, bar_lt b h2]
  · rw [if_neg (fun hh => c hh.1), if_neg (fun hh => c hh.1)]
theorem sgR_congr {cf : ByteArray → (Nat → Bool) × Bool} {l l' : List Int} {ext : Bool} {k : Nat} {t : List Int} {k1 : Nat} {r : Int} (h1 : r = 123 → itv l ext k1 = itv l' ext k1) (h2 : r = 91 → brkR cf (ofBys (l.drop k1)) false 0 = brkR cf (ofBys (l'.drop k1)) false 0) : sgR cf l ext k t k1 r = sgR cf l' ext k t k1 r := by
  unfold sgR
  by_cases c1 : r = 123
  · rw [h1 c1]
    subst c1
    rfl
  by_cases c2 : r = 91
  · rw [h2 c2]
    subst c2
    rfl
  · rw [if_neg c2, if_neg c2, if_neg c1, if_neg c1]
/-- A sign ahead of the bar. -/
theorem sg_bar {cf : ByteArray → (Nat → Bool) × Bool} (hcf : NoBar cf) {a b : List Int} (ha : Byt a) (hb : Byt b) (hn : NoEsc a) {k : Nat} (hk : k < a.length) : sg cf (barL a b) true k = sg cf a true k ∨ ((sg cf a true k).kd = 0 ∧ ∃ c, (sg cf a true k).er = some (c, a.length)) := by
  have h1 := sgT_le a k (by omega)
  unfold sg
  rw [sgT_bar hn hk]
  generalize hr : roleC (sgT a k) true = r
  generalize hk1 : k + (sgT a k).length = k1 at h1 ⊢
  by_cases c2 : r = 91
  · subst c2
    cases hB : brkR cf (ofBys (a.drop k1)) false 0 with
    | ok p nx =>
      left
      refine sgR_congr (fun h => absurd h (by decide)) (fun _ => ?_)
      rw [bar_drop b h1, hB]
      exact brkR_bar_ok (bar_of (byt_drop ha k1) hb) hB
    | bad c pos =>
      rcases brkR_bar_bad hcf (bar_of (byt_drop ha k1) hb) hB with g | g
      · right
        have e : sgR cf a true k (sgT a k) k1 91 = ⟨0, sgT a k, setN noP, 0, 0, some (c, k1 + pos), k1⟩ := by unfold sgR; rw [if_neg (by decide), if_neg (by decide), if_pos rfl, hB]
        rw [e]
        refine ⟨rfl, c, ?_⟩
        rw [ofBys_size, List.length_drop] at g
        have : k1 + pos = a.length := by omega
        rw [this]
      · left
        refine sgR_congr (fun h => absurd h (by decide)) (fun _ => ?_)
        rw [bar_drop b h1, hB]
        exact g
  · left
    exact sgR_congr (fun _ => itv_bar ha hb h1) (fun h => absurd h c2)
theorem sg_at_bar (cf : ByteArray → (Nat → Bool) × Bool) (a b : List Int) : sg cf (barL a b) true a.length = ⟨4, [124], zeroN, 0, 0, none, a.length + 1⟩ := by
  have hlen := barL_len a b
  have e : sgT (barL a b) a.length = [124] := by
    unfold sgT
    rw [if_pos (by omega), bar_at, if_neg (by simp)]
  unfold sg
  rw [e]
  rfl

/-! ### The reader ahead of the bar -/
def n5 (l : List Nd) : Prop := ∀ x ∈ l, x.kd ≠ 5
theorem n5_snoc {l : List Nd} {x : Nd} (h : n5 l) (hx : x.kd ≠ 5) : n5 (l ++ [x]) := fun y hy => by
  rcases List.mem_append.1 hy with h1 | h1
  · exact h y h1
  · rw [List.mem_singleton.1 h1]; exact hx
theorem n5_join {l : List Nd} (h : n5 l) : (joinN 4 l).kd ≠ 5 := by
  unfold joinN
  split
  · exact h _ (by simp)
  · show (4 : Int) ≠ 5; decide
theorem n5_rep {l : List Nd} {m n : Int} (h : n5 l) : n5 (repL l m n) := by
  unfold repL
  split
  · exact h
  · refine n5_snoc (fun y hy => h y (List.dropLast_subset _ hy)) (by show (6 : Int) ≠ 5; decide)
theorem sg_n5 (cf : ByteArray → (Nat → Bool) × Bool) (l : List Int) (ext : Bool) (k : Nat) : (sg cf l ext k).nd.kd ≠ 5 := by
  apply sg_cases (fun s => s.nd.kd ≠ 5) <;> intros <;> (first | (show (1 : Int) ≠ 5; decide) | (show (0 : Int) ≠ 5; decide) | (show (2 : Int) ≠ 5; decide) | (show (3 : Int) ≠ 5; decide))
theorem rdR_n5 (cf : ByteArray → (Nat → Bool) × Bool) (l : List Int) (ext : Bool) (n : Nat) (items : List Nd) (k g o : Nat) (t : Nd) (k1 g1 : Nat) (h : rdR cf l ext n (.br items) k g o = some (.ok t k1 g1)) (hi : n5 items) : t.kd ≠ 5 := by
  have key := rdR_ind cf l ext (fun md _ _ _ r => match md with | .re _ => True | .br items => n5 items → ∀ t k1 g1, r = .ok t k1 g1 → t.kd ≠ 5) ?_ ?_ ?_ ?_ ?_ ?_ ?_ ?_ ?_ ?_ ?_ ?_ ?_ ?_ ?_ n (.br items) k g o _ h
  · exact key hi t k1 g1 rfl
  · intros; trivial
  · intros; trivial
  · intros; trivial
  · intro k g o _ _ t k1 g1 e; cases e
  · intro items k g o _ _ hi t k1 g1 e
    cases e
    exact n5_join hi
  · intro items k g o r _ _ h2 hi t k1 g1 e
    exact h2 (n5_snoc hi (by show (1 : Int) ≠ 5; decide)) _ _ _ e
  · intro items k g o _ _ _ t k1 g1 e; cases e
  · intro items k g o c p _ _ _ _ t k1 g1 e; cases e
  · intro items k g o r _ _ _ h2 hi t k1 g1 e
    exact h2 (n5_rep hi) _ _ _ e
  · intro items k g o _ _ _ t k1 g1 e; cases e
  · intro items k g o c p _ _ _ _ t k1 g1 e; cases e
  · intro items k g o t k1 g1 _ _ _ _ _ t' k2 g2 e; cases e
  · intro items k g o t k1 g1 r _ _ _ _ h2 hi t' k2 g2 e
    exact h2 (n5_snoc hi (by show (7 : Int) ≠ 5; decide)) _ _ _ e
  · intro items k g o c p _ _ _ _ _ t k1 g1 e; cases e
  · intro items k g o r _ _ _ _ _ h2 hi t k1 g1 e
    exact h2 (n5_snoc hi (sg_n5 cf l ext k)) _ _ _ e

/-- Reading ends ahead of a sign that ends a branch. -/
theorem rdR_kend {cf : ByteArray → (Nat → Bool) × Bool} {l : List Int} {ext : Bool} {n : Nat} {md : RM} {k g o : Nat} {t : Nd} {k1 g1 : Nat} (h : rdR cf l ext n md k g o = some (.ok t k1 g1)) : 3 ≤ (sg cf l ext k1).kd := by
  have key := rdR_ind cf l ext (fun _ _ _ _ r => ∀ t k1 g1, r = .ok t k1 g1 → 3 ≤ (sg cf l ext k1).kd) ?_ ?_ ?_ ?_ ?_ ?_ ?_ ?_ ?_ ?_ ?_ ?_ ?_ ?_ ?_ n md k g o _ h
  · exact key t k1 g1 rfl
  · intro bs k g o c p _ t k1 g1 e; cases e
  · intro bs k g o b k1 g1 r _ _ h2 t k2 g2 e; exact h2 _ _ _ e
  · intro bs k g o b k1 g1 h1 _ t k2 g2 e; cases e; exact h1 _ _ _ rfl
  · intro k g o _ t k1 g1 e; cases e
  · intro items k g o he _ t k1 g1 e
    cases e
    have := is_end he
    omega
  · intro items k g o r _ _ h2 t k1 g1 e; exact h2 _ _ _ e
  · intro items k g o _ _ t k1 g1 e; cases e
  · intro items k g o c p _ _ _ t k1 g1 e; cases e
  · intro items k g o r _ _ _ h2 t k1 g1 e; exact h2 _ _ _ e
  · intro items k g o _ _ t k1 g1 e; cases e
  · intro items k g o c p _ _ _ t k1 g1 e; cases e
  · intro items k g o t k1 g1 _ _ _ _ t' k2 g2 e; cases e
  · intro items k g o t k1 g1 r _ _ _ _ h2 t' k2 g2 e; exact h2 _ _ _ e
  · intro items k g o c p _ _ _ _ t k1 g1 e; cases e
  · intro items k g o r _ _ _ _ _ h2 t k1 g1 e; exact h2 _ _ _ e

def CutR (cf : ByteArray → (Nat → Bool) × Bool) (a b : List Int) (n : Nat) (md : RM) (k g o : Nat) (r : RR) : Prop :=
  match md, r with
  | .br items, .ok t k1 g1 => rdR cf (barL a b) true n (.br items) k g o = some (.ok t k1 g1)
  | .re bs, .ok t k1 g1 => (k1 < a.length ∧ rdR cf (barL a b) true n (.re bs) k g o = some (.ok t k1 g1)) ∨
      (k1 = a.length ∧ (n5 bs → ∃ n2 L, n2 < n ∧ L ≠ [] ∧ n5 L ∧ t = joinN 5 L ∧ rdR cf (barL a b) true n (.re bs) k g o = rdR cf (barL a b) true n2 (.re L) (a.length + 1) g1 o))
  | md, .bad c p => p = a.length ∨ rdR cf (barL a b) true n md k g o = some (.bad c p)
theorem rdR_cut {cf : ByteArray → (Nat → Bool) × Bool} (hcf : NoBar cf) {a b : List Int} (ha : Byt a) (hb : Byt b) (hn : NoEsc a) : ∀ n md k g o r, k ≤ a.length → rdR cf a true n md k g o = some r → CutR cf a b n md k g o r := by
  intro n
  induction n with
  | zero => intro md k g o r _ h; simp [rdR] at h
  | succ n ih =>
    intro md k g o r hk h
    have hbar := sg_at_bar cf a b
    have hend : (sg cf a true a.length).kd = 5 := sg_end cf a true a.length (by omega)
    cases md with
    | re bs =>
      rw [rdR_re] at h
      cases hx : rdR cf a true n (.br []) k g o with
      | none => rw [hx] at h; cases h
      | some x =>
        rw [hx] at h
        have hp := ih _ _ _ _ _ hk hx
        cases x with
        | bad c p =>
          simp only [Option.some.injEq] at h
          subst h
          rcases hp with e | e
          · exact Or.inl e
          · right
            rw [rdR_re, e]
        | ok t1 k1 g1 =>
          have hle := rdR_le cf a true _ _ _ _ _ _ _ _ hx hk
          have hp' : rdR cf (barL a b) true n (.br []) k g o = some (.ok t1 k1 g1) := hp
          have h5 := rdR_n5 cf a true n [] k g o t1 k1 g1 hx (fun x hx => by simp at hx)
          dsimp only at h
          by_cases hk1 : k1 = a.length
          · subst hk1
            rw [if_neg (by rw [hend]; decide)] at h
            simp only [Option.some.injEq] at h
            subst h
            refine Or.inr ⟨rfl, fun hbs => ⟨n, bs ++ [t1], Nat.lt_succ_self n, by simp, n5_snoc hbs h5, rfl, ?_⟩⟩
            rw [rdR_re, hp']
            dsimp only
            rw [hbar]
            rfl
          · have hlt : k1 < a.length := by omega
            rcases sg_bar hcf ha hb hn (b := b) hlt with e | ⟨e, c, e2⟩
            · by_cases h4 : (sg cf a true k1).kd = 4
              · rw [if_pos h4] at h
                have hnx := sg_nx cf a true k1 (by omega)
                have hq := ih _ _ _ _ _ hnx.2 h
                have hstep : rdR cf (barL a b) true (n + 1) (.re bs) k g o = rdR cf (barL a b) true n (.re (bs ++ [t1])) (sg cf a true k1).nx g1 o := by
                  rw [rdR_re, hp']
                  dsimp only
                  rw [e, if_pos h4]
                cases r with
                | bad c p =>
                  rcases hq with e3 | e3
                  · exact Or.inl e3
                  · right; rw [hstep]; exact e3
                | ok t k2 g2 =>
                  rcases hq with ⟨e3, e4⟩ | ⟨e3, e4⟩
                  · exact Or.inl ⟨e3, by rw [hstep]; exact e4⟩
                  · refine Or.inr ⟨e3, fun hbs => ?_⟩
                    obtain ⟨n2, L, q1, q2, q3, q4, q5⟩ := e4 (n5_snoc hbs h5)
                    exact ⟨n2, L, by omega, q2, q3, q4, by rw [hstep]; exact q5⟩
              · rw [if_neg h4] at h
                simp only [Option.some.injEq] at h
                subst h
                refine Or.inl ⟨hlt, ?_⟩
                rw [rdR_re, hp']
                dsimp only
                rw [e, if_neg h4]
            · exfalso
              have h6 := rdR_kend hx
              omega
    | br items =>
      rw [rdR_br] at h
      by_cases hk2 : k = a.length
      · subst hk2
        rw [hend, if_pos (by rfl)] at h
        by_cases hi : items = []
        · rw [if_pos hi] at h
          simp only [Option.some.injEq] at h
          subst h
          exact Or.inl rfl
        · rw [if_neg hi] at h
          simp only [Option.some.injEq] at h
          subst h
          show rdR cf (barL a b) true (n + 1) (.br items) a.length g o = _
          rw [rdR_br, hbar, if_pos (by rfl), if_neg hi]
      have hkl : k < a.length := by omega
      rcases sg_bar hcf ha hb hn (b := b) hkl with e | ⟨e, c, e2⟩
      · have hnx := sg_nx cf a true k hk
        have hby : ∀ s nk its, isByt true s nk its = false := fun _ _ _ => rfl
        have hst : ∀ x, rdR cf (barL a b) true (n + 1) (.br items) k g o = some x → x = r → CutR cf a b (n + 1) (.br items) k g o r := fun x hx e => by
          subst e
          cases x with
          | bad c p => exact Or.inr hx
          | ok t k1 g1 => exact hx
        have hgo : ∀ items' k', rdR cf (barL a b) true (n + 1) (.br items) k g o = rdR cf (barL a b) true n (.br items') k' g o → CutR cf a b n (.br items') k' g o r → CutR cf a b (n + 1) (.br items) k g o r := fun items' k' e hq => by
          cases r with
          | bad c p =>
            rcases hq with e3 | e3
            · exact Or.inl e3
            · right; rw [e]; exact e3
          | ok t k2 g2 =>
            show rdR cf (barL a b) true (n + 1) (.br items) k g o = _
            rw [e]
            exact hq
        by_cases he : endsB (sg cf a true k).kd = true
        · rw [if_pos he] at h
          by_cases hi : items = []
          · rw [if_pos hi] at h
            refine hst _ ?_ (Option.some.inj h)
            rw [rdR_br, e, if_pos he, if_pos hi]
          · rw [if_neg hi] at h
            refine hst _ ?_ (Option.some.inj h)
            rw [rdR_br, e, if_pos he, if_neg hi]
        rw [if_neg he, hby, if_neg (by simp)] at h
        by_cases h1 : (sg cf a true k).kd = 1
        · rw [if_pos h1] at h
          by_cases hp : endsP items = false
          · rw [if_pos hp] at h
            refine hst _ ?_ (Option.some.inj h)
            rw [rdR_br, e, if_neg he, hby, if_neg (by simp), if_pos h1, if_pos hp]
          · rw [if_neg hp] at h
            cases hx : (sg cf a true k).er with
            | some cp =>
              rw [hx] at h
              refine hst _ ?_ (Option.some.inj h)
              rw [rdR_br, e, if_neg he, hby, if_neg (by simp), if_pos h1, if_neg hp, hx]
            | none =>
              rw [hx] at h
              refine hgo _ _ ?_ (ih _ _ _ _ _ hnx.2 h)
              rw [rdR_br, e, if_neg he, hby, if_neg (by simp), if_pos h1, if_neg hp, hx]
        rw [if_neg h1] at h
        by_cases h2 : (sg cf a true k).kd = 2
        · rw [if_pos h2] at h
          by_cases h9 : g = 9
          · rw [if_pos h9] at h
            refine hst _ ?_ (Option.some.inj h)
            rw [rdR_br, e, if_neg he, hby, if_neg (by simp), if_neg h1, if_pos h2, if_pos h9]
          · rw [if_neg h9] at h
            cases hr : rdR cf a true n (.re []) (sg cf a true k).nx (g + 1) (o + 1) with
            | none => rw [hr] at h; cases h
            | some x =>
              rw [hr] at h
              have hp := ih _ _ _ _ _ hnx.2 hr
              cases x with
              | bad c p =>
                simp only [Option.some.injEq] at h
                subst h
                rcases hp with e3 | e3
                · exact Or.inl e3
                · right
                  rw [rdR_br, e, if_neg he, hby, if_neg (by simp), if_neg h1, if_pos h2, if_neg h9, e3]
              | ok t k1 g1 =>
                have hle := rdR_le cf a true _ _ _ _ _ _ _ _ hr hnx.2
                dsimp only at h
                by_cases hk1 : k1 = a.length
                · subst hk1
                  rw [if_neg (by rw [hend]; decide)] at h
                  simp only [Option.some.injEq] at h
                  subst h
                  exact Or.inl rfl
                · have hlt : k1 < a.length := by omega
                  have hp2 : rdR cf (barL a b) true n (.re []) (sg cf a true k).nx (g + 1) (o + 1) = some (.ok t k1 g1) := by
                    rcases hp with ⟨_, q⟩ | ⟨q, _⟩
                    · exact q
                    · exact absurd q hk1
                  have hkd : (sg cf (barL a b) true k1).kd = (sg cf a true k1).kd ∧ ((sg cf a true k1).kd = 3 → (sg cf (barL a b) true k1).nx = (sg cf a true k1).nx) := by
                    rcases sg_bar hcf ha hb hn (b := b) hlt with q | ⟨q, c, q2⟩
                    · rw [q]; exact ⟨rfl, fun _ => rfl⟩
                    · exfalso
                      have h6 := rdR_kend hr
                      omega
                  by_cases h3 : (sg cf a true k1).kd = 3
                  · rw [if_pos h3] at h
                    have hnx1 := sg_nx cf a true k1 (by omega)
                    have hq := ih _ _ _ _ _ hnx1.2 h
                    have hstep : rdR cf (barL a b) true (n + 1) (.br items) k g o = rdR cf (barL a b) true n (.br (items ++ [grpN (g + 1 : Nat) t])) (sg cf a true k1).nx g1 o := by
                      rw [rdR_br, e, if_neg he, hby, if_neg (by simp), if_neg h1, if_pos h2, if_neg h9, hp2]
                      dsimp only
                      rw [hkd.1, if_pos h3, hkd.2 h3]
                    cases r with
                    | bad c p =>
                      rcases hq with e3 | e3
                      · exact Or.inl e3
                      · right; rw [hstep]; exact e3
                    | ok t k2 g2 =>
                      show rdR cf (barL a b) true (n + 1) (.br items) k g o = _
                      rw [hstep]
                      exact hq
                  · rw [if_neg h3] at h
                    refine hst _ ?_ (Option.some.inj h)
                    rw [rdR_br, e, if_neg he, hby, if_neg (by simp), if_neg h1, if_pos h2, if_neg h9, hp2]
                    dsimp only
                    rw [hkd.1, if_neg h3]
        rw [if_neg h2] at h
        cases hx : (sg cf a true k).er with
        | some cp =>
          rw [hx] at h
          refine hst _ ?_ (Option.some.inj h)
          rw [rdR_br, e, if_neg he, hby, if_neg (by simp), if_neg h1, if_neg h2, hx]
        | none =>
          rw [hx] at h
          refine hgo _ _ ?_ (ih _ _ _ _ _ hnx.2 h)
          rw [rdR_br, e, if_neg he, hby, if_neg (by simp), if_neg h1, if_neg h2, hx]
      · rw [if_neg (by rw [e]; decide), if_neg (by simp [isByt]), if_neg (by rw [e]; decide), if_neg (by rw [e]; decide), e2] at h
        simp only [Option.some.injEq] at h
        subst h
        exact Or.inl rfl
end Go.Proofs.YthmgcebonplcgaaGreatDoor
/- Two texts with a bar between: what is behind the bar; both (pure). -/
namespace Go.Proofs.YthmgcebonplcgaaGreatDoor
open Go.RowKit

/-! ### A text with more ahead -/
theorem pre_getD (p b : List Int) (k : Nat) : (p ++ b).getD (k + p.length) 0 = b.getD k 0 := by
  rw [Nat.add_comm]; exact getD_ge b
theorem pre_drop (p b : List Int) (k : Nat) : (p ++ b).drop (k + p.length) = b.drop k := by
  rw [Nat.add_comm, ← List.drop_drop, List.drop_left]
theorem sgT_pre (p b : List Int) (k : Nat) : sgT (p ++ b) (k + p.length) = sgT b k := by
  unfold sgT
  have e : k + p.length + 1 = k + 1 + p.length := by omega
  rw [e, pre_getD, pre_getD, List.length_append]
  by_cases c : k < b.length
  · rw [if_pos c, if_pos (by omega)]
    by_cases c2 : b.getD k 0 = 92 ∧ k + 1 < b.length
    · rw [if_pos c2, if_pos ⟨c2.1, by omega⟩]
    · rw [if_neg c2, if_neg (fun hh => c2 ⟨hh.1, by omega⟩)]
  · rw [if_neg c, if_neg (by omega)]
theorem nD_pre {p b : List Int} (hp : Byt p) (hb : Byt b) (k : Nat) (hk : k ≤ b.length) : nD (p ++ b) (k + p.length) = nD b k := by
  unfold nD passN
  rw [ofBys_size, ofBys_size, List.length_append]
  have e : p.length + b.length - (k + p.length) = b.length - k := by omega
  rw [e]
  have hat : ∀ i, atB (ofBys (p ++ b)) (k + p.length + i) = atB (ofBys b) (k + i) := fun i => by
    unfold atB
    rw [bys_ofBys hb, bys_ofBys (byt_app hp hb)]
    have : k + p.length + i = k + i + p.length := by omega
    rw [this, pre_getD]
  have : passB (ofBys (p ++ b)) dgtB true (k + p.length) = passB (ofBys b) dgtB true k := by
    funext i
    unfold passB
    rw [hat]
  rw [this]
theorem begAt_pre (p b : List Int) (k : Nat) (e : List Int) : begAt (p ++ b) (k + p.length) e = begAt b k e := by
  unfold begAt
  rw [pre_drop]
def upI (d : Nat) : Option (Int × Int × Nat) → Option (Int × Int × Nat)
  | none => none
  | some (m, n, k) => some (m, n, k + d)
theorem itv_pre {p b : List Int} (hp : Byt p) (hb : Byt b) (ext : Bool) (k : Nat) (hk : k ≤ b.length) : itv (p ++ b) ext (k + p.length) = upI p.length (itv b ext k) := by
  have hd : ∀ k, k ≤ b.length → dgs (p ++ b) (k + p.length) = dgs b k := fun k hk => by
    unfold dgs
    rw [pre_drop, nD_pre hp hb k hk]
  have hok : ∀ k, k ≤ b.length → numOk (p ++ b) (k + p.length) = numOk b k := fun k hk => by unfold numOk; rw [hd k hk]
  have hv : ∀ k, k ≤ b.length → numV (p ++ b) (k + p.length) = numV b k := fun k hk => by unfold numV; rw [hd k hk]
  have h1 := nD_le b k hk
  have a1 : k + p.length + nD b k = k + nD b k + p.length := by omega
  have a2 : k + nD b k + p.length + 1 = k + nD b k + 1 + p.length := by omega
  have a3 : k + nD b k + 1 + p.length + nD b (k + nD b k + 1) = k + nD b k + 1 + nD b (k + nD b k + 1) + p.length := by omega
  unfold itv
  rw [hok k hk, hv k hk, nD_pre hp hb k hk, a1, begAt_pre, begAt_pre, a2, begAt_pre]
  by_cases c1 : numOk b k = false
  · rw [if_pos c1, if_pos c1]; rfl
  rw [if_neg c1, if_neg c1]
  by_cases c2 : begAt b (k + nD b k) (shutT ext) = true
  · rw [if_pos c2, if_pos c2]
    show _ = some (_, _, _)
    congr 3
    omega
  rw [if_neg c2, if_neg c2]
  by_cases c3 : begAt b (k + nD b k) [44] = false
  · rw [if_pos c3, if_pos c3]; rfl
  rw [if_neg c3, if_neg c3]
  have h2 : k + nD b k + 1 ≤ b.length := begAt_le (e := [44]) (by simpa using c3) (by simp)
  have h3 := nD_le b (k + nD b k + 1) h2
  rw [hok _ h2, hv _ h2, nD_pre hp hb _ h2, a3, begAt_pre]
  by_cases c4 : begAt b (k + nD b k + 1) (shutT ext) = true
  · rw [if_pos c4, if_pos c4]
    show _ = some (_, _, _)
    congr 3
    omega
  rw [if_neg c4, if_neg c4]
  split
  · show _ = some (_, _, _)
    congr 3
    omega
  · rfl
def upE (d : Nat) : Option (Nat × Nat) → Option (Nat × Nat)
  | none => none
  | some (c, p) => some (c, p + d)
def Sg.up (d : Nat) (s : Sg) : Sg := ⟨s.kd, s.tx, s.nd, s.lo, s.hi, upE d s.er, s.nx + d⟩
theorem sg_pre (cf : ByteArray → (Nat → Bool) × Bool) {p b : List Int} (hp : Byt p) (hb : Byt b) (ext : Bool) (k : Nat) (hk : k ≤ b.length) : sg cf (p ++ b) ext (k + p.length) = (sg cf b ext k).up p.length := by
  have h1 := sgT_le b k hk
  unfold sg
  rw [sgT_pre]
  have a1 : k + p.length + (sgT b k).length = k + (sgT b k).length + p.length := by omega
  rw [a1]
  generalize sgT b k = t at *
  generalize k + t.length = k1 at *
  generalize roleC t ext = r
  unfold sgR
  rw [pre_drop, itv_pre hp hb ext k1 h1]
  have ab : ∀ (kd : Nat) (t : List Int) (nd : Nd) (lo hi : Int) (er : Option (Nat × Nat)) (er' : Option (Nat × Nat)) (x y : Nat), er' = upE p.length er → y = x + p.length → (⟨kd, t, nd, lo, hi, er', y⟩ : Sg) = (⟨kd, t, nd, lo, hi, er, x⟩ : Sg).up p.length := fun _ _ _ _ _ _ _ _ _ h1 h2 => by subst h1; subst h2; rfl
  by_cases c0 : r = 0
  · rw [if_pos c0, if_pos c0]
    cases litR t ext <;> rfl
  rw [if_neg c0, if_neg c0]
  by_cases c46 : r = 46
  · rw [if_pos c46, if_pos c46]
    rfl
  rw [if_neg c46, if_neg c46]
  by_cases c91 : r = 91
  · rw [if_pos c91, if_pos c91]
    cases brkR cf (ofBys (b.drop k1)) false 0 with
    | ok q nx => exact ab _ _ _ _ _ _ _ _ _ rfl (by omega)
    | bad c pos => exact ab _ _ _ _ _ _ _ _ _ (by show some (_, _) = some (_, _); congr 2; omega) rfl
  rw [if_neg c91, if_neg c91]
  by_cases c94 : r = 94
  · rw [if_pos c94, if_pos c94]
    rfl
  rw [if_neg c94, if_neg c94]
  by_cases c36 : r = 36
  · rw [if_pos c36, if_pos c36]
    rfl
  rw [if_neg c36, if_neg c36]
  by_cases c43 : r = 43
  · rw [if_pos c43, if_pos c43]
    rfl
  rw [if_neg c43, if_neg c43]
  by_cases c42 : r = 42
  · rw [if_pos c42, if_pos c42]
    rfl
  rw [if_neg c42, if_neg c42]
  by_cases c63 : r = 63
  · rw [if_pos c63, if_pos c63]
    rfl
  rw [if_neg c63, if_neg c63]
  by_cases c123 : r = 123
  · rw [if_pos c123, if_pos c123]
    cases itv b ext k1 with
    | none => rfl
    | some x => obtain ⟨m, n, k2⟩ := x; rfl
  rw [if_neg c123, if_neg c123]
  by_cases c40 : r = 40
  · rw [if_pos c40, if_pos c40]
    rfl
  rw [if_neg c40, if_neg c40]
  by_cases c41 : r = 41
  · rw [if_pos c41, if_pos c41]
    rfl
  rw [if_neg c41, if_neg c41]
  by_cases c124 : r = 124
  · rw [if_pos c124, if_pos c124]
    rfl
  rw [if_neg c124, if_neg c124]
  rfl

/-! ### The reader behind the bar -/
def cnt (l : List Int) : Nat := l.count 40
theorem cnt_drop (l : List Int) {k k' : Nat} (h : k ≤ k') : cnt (l.drop k') ≤ cnt (l.drop k) := by
  obtain ⟨j, rfl⟩ : ∃ j, k' = k + j := ⟨k' - k, by omega⟩
  rw [← List.drop_drop]
  exact List.Sublist.count_le _ (List.drop_sublist j (l.drop k))
theorem role40 {t : List Int} (h : roleC t true = 40) : t = [40] := by
  by_cases h0 : t = []
  · subst h0; revert h; decide
  by_cases h1 : t = [92, 40] ∨ t = [92, 41] ∨ t = [92, 123]
  · rcases h1 with e | e | e <;> subst e <;> revert h <;> decide
  by_cases h2 : t = [40] ∨ t = [41] ∨ t = [123] ∨ t = [43] ∨ t = [63] ∨ t = [124]
  · rcases h2 with e | e | e | e | e | e <;> subst e <;> first | rfl | (revert h; decide)
  by_cases h3 : t = [46] ∨ t = [91] ∨ t = [94] ∨ t = [36] ∨ t = [42]
  · rcases h3 with e | e | e | e | e <;> subst e <;> revert h <;> decide
  unfold roleC at h
  rw [if_neg h0, if_neg h1, if_neg h2, if_neg h3] at h
  cases h
theorem cnt_open (cf : ByteArray → (Nat → Bool) × Bool) (l : List Int) (k : Nat) (hk : k ≤ l.length) (h : (sg cf l true k).kd = 2) : cnt (l.drop (sg cf l true k).nx) + 1 ≤ cnt (l.drop k) := by
  have hkl : k < l.length := by
    rcases Nat.lt_or_ge k l.length with g | g
    · exact g
    · have := sg_end cf l true k (by omega); omega
  have hr : roleC (sgT l k) true = 40 ∧ (sg cf l true k).nx = k + (sgT l k).length := by
    revert h
    apply sg_cases (fun s => s.kd = 2 → roleC (sgT l k) true = 40 ∧ s.nx = k + (sgT l k).length) <;> intros <;> first | exact ⟨by assumption, rfl⟩ | (rename_i hh; cases hh)
  have ht : sgT l k = [40] := role40 hr.1
  have h0 : l.getD k 0 = 40 := by
    unfold sgT at ht
    rw [if_pos hkl] at ht
    split at ht
    · simp at ht
    · simpa using ht
  rw [hr.2, ht]
  have e : l.drop k = 40 :: l.drop (k + 1) := by
    rw [List.getD, List.getElem?_eq_getElem hkl] at h0
    simp only [Option.getD_some] at h0
    rw [List.drop_eq_getElem_cons hkl, h0]
  rw [e]
  unfold cnt
  rw [List.count_cons_self]
  exact Nat.le_refl _
/-- Two trees of one kind, with as many kids. -/
def Lik (x y : Nd) : Prop := x.kd = y.kd ∧ x.kids.len = y.kids.len
theorem Lik.refl (x : Nd) : Lik x x := ⟨rfl, rfl⟩
def Liks : List Nd → List Nd → Prop
  | [], [] => True
  | x :: l, y :: r => Lik x y ∧ Liks l r
  | _, _ => False
theorem Liks.len : ∀ {l r : List Nd}, Liks l r → l.length = r.length
  | [], [], _ => rfl
  | [], _ :: _, h => h.elim
  | _ :: _, [], h => h.elim
  | _ :: l, _ :: r, h => by rw [List.length_cons, List.length_cons, Liks.len h.2]
theorem Liks.snoc : ∀ {l r : List Nd} {x y : Nd}, Liks l r → Lik x y → Liks (l ++ [x]) (r ++ [y])
  | [], [], _, _, _, h => ⟨h, trivial⟩
  | [], _ :: _, _, _, h, _ => h.elim
  | _ :: _, [], _, _, h, _ => h.elim
  | _ :: _, _ :: _, _, _, h, h' => ⟨h.1, Liks.snoc h.2 h'⟩
theorem Liks.nil_iff {l r : List Nd} (h : Liks l r) : l = [] ↔ r = [] := by
  have := h.len
  rw [← List.length_eq_zero_iff, ← List.length_eq_zero_iff, this]
theorem Liks.last : ∀ {l r : List Nd}, Liks l r → (l.getLast? = none ∧ r.getLast? = none) ∨ ∃ l' x r' y, l = l' ++ [x] ∧ r = r' ++ [y] ∧ Liks l' r' ∧ Lik x y
  | [], [], _ => Or.inl ⟨rfl, rfl⟩
  | [], _ :: _, h => h.elim
  | _ :: _, [], h => h.elim
  | a :: l, b :: r, h => by
    right
    rcases Liks.last h.2 with ⟨h1, h2⟩ | ⟨l', x, r', y, rfl, rfl, h3, h4⟩
    · have e1 : l = [] := List.getLast?_eq_none_iff.1 h1
      have e2 : r = [] := List.getLast?_eq_none_iff.1 h2
      subst e1; subst e2
      exact ⟨[], a, [], b, rfl, rfl, trivial, h.1⟩
    · exact ⟨a :: l', x, b :: r', y, rfl, rfl, ⟨h.1, h3⟩, h4⟩
theorem Liks.endsQ {l r : List Nd} (h : Liks l r) : endsP l = endsP r := by
  rcases h.last with ⟨h1, h2⟩ | ⟨l', x, r', y, rfl, rfl, h3, h4⟩
  · unfold endsP; rw [h1, h2]
  · unfold endsP
    rw [List.getLast?_concat, List.getLast?_concat]
    simp only
    rw [h4.1]
theorem Liks.rep {l r : List Nd} (h : Liks l r) (m n : Int) : Liks (repL l m n) (repL r m n) := by
  rcases h.last with ⟨h1, h2⟩ | ⟨l', x, r', y, rfl, rfl, h3, h4⟩
  · unfold repL; rw [h1, h2]; exact h
  · unfold repL
    rw [List.getLast?_concat, List.getLast?_concat]
    simp only
    rw [List.dropLast_concat, List.dropLast_concat]
    exact h3.snoc ⟨rfl, rfl⟩
theorem Liks.join {l r : List Nd} (kd : Int) (h : Liks l r) : Lik (joinN kd l) (joinN kd r) := by
  match l, r, h with
  | [], [], _ => exact ⟨rfl, rfl⟩
  | [], _ :: _, h => exact h.elim
  | _ :: _, [], h => exact h.elim
  | [x], [y], h => exact h.1
  | [x], _ :: _ :: _, h => exact h.2.elim
  | _ :: _ :: _, [y], h => exact h.2.elim
  | a :: b :: l, c :: d :: r, h =>
    refine ⟨rfl, ?_⟩
    show (fo (a :: b :: l)).len = (fo (c :: d :: r)).len
    rw [fo_len, fo_len]
    exact h.len
def ShfB (cf : ByteArray → (Nat → Bool) × Bool) (p b : List Int) (g0 : Nat) (n : Nat) (items' : List Nd) (k g o : Nat) : RR → Prop
  | .ok t k1 g1 => g1 + cnt (b.drop k1) ≤ g + cnt (b.drop k) ∧ ∃ t', Lik t t' ∧ rdR cf (p ++ b) true n (.br items') (k + p.length) (g + g0) o = some (.ok t' (k1 + p.length) (g1 + g0))
  | .bad c q => rdR cf (p ++ b) true n (.br items') (k + p.length) (g + g0) o = some (.bad c (q + p.length))
def ShfR (cf : ByteArray → (Nat → Bool) × Bool) (p b : List Int) (g0 : Nat) (n : Nat) (md : RM) (k g o : Nat) (r : RR) : Prop :=
  match md, r with
  | .br items, r => ∀ items', Liks items items' → ShfB cf p b g0 n items' k g o r
  | .re bs, .ok t k1 g1 => ∀ P bs', Liks bs bs' → n5 bs → g1 + cnt (b.drop k1) ≤ g + cnt (b.drop k) ∧ ∃ L L', t = joinN 5 L ∧ L ≠ [] ∧ n5 L ∧ Liks L L' ∧ rdR cf (p ++ b) true n (.re (P ++ bs')) (k + p.length) (g + g0) o = some (.ok (joinN 5 (P ++ L')) (k1 + p.length) (g1 + g0))
  | .re bs, .bad c q => ∀ P bs', Liks bs bs' → rdR cf (p ++ b) true n (.re (P ++ bs')) (k + p.length) (g + g0) o = some (.bad c (q + p.length))
theorem rdR_shf (cf : ByteArray → (Nat → Bool) × Bool) {p b : List Int} (hp : Byt p) (hb : Byt b) (g0 : Nat) : ∀ n md k g o r, k ≤ b.length → g + cnt (b.drop k) + g0 ≤ 9 → rdR cf b true n md k g o = some r → ShfR cf p b g0 n md k g o r := by
  intro n
  induction n with
  | zero => intro md k g o r _ _ h; simp [rdR] at h
  | succ n ih =>
    intro md k g o r hk hg h
    cases md with
    | re bs =>
      rw [rdR_re] at h
      cases hx : rdR cf b true n (.br []) k g o with
      | none => rw [hx] at h; cases h
      | some x =>
        rw [hx] at h
        have hq := ih _ _ _ _ _ hk hg hx
        cases x with
        | bad c q =>
          have hq : ∀ items', Liks [] items' → rdR cf (p ++ b) true n (.br items') (k + p.length) (g + g0) o = some (.bad c (q + p.length)) := hq
          simp only [Option.some.injEq] at h
          subst h
          intro P bs' _
          rw [rdR_re, hq [] trivial]
        | ok t1 k1 g1 =>
          have hle := rdR_le cf b true _ _ _ _ _ _ _ _ hx hk
          have h5 := rdR_n5 cf b true n [] k g o t1 k1 g1 hx (fun x hx => by simp at hx)
          obtain ⟨hc, t1', hl, hq2⟩ := hq [] trivial
          dsimp only at h
          have hs := sg_pre cf hp hb true k1 hle.2
          by_cases h4 : (sg cf b true k1).kd = 4
          · rw [if_pos h4] at h
            have hnx := sg_nx cf b true k1 hle.2
            have hc2 := cnt_drop b (k := k1) (k' := (sg cf b true k1).nx) (by omega)
            have hr := ih _ _ _ _ _ hnx.2 (by omega) h
            have hstep : ∀ P bs', Liks bs bs' → rdR cf (p ++ b) true (n + 1) (.re (P ++ bs')) (k + p.length) (g + g0) o = rdR cf (p ++ b) true n (.re (P ++ (bs' ++ [t1']))) ((sg cf b true k1).nx + p.length) (g1 + g0) o := fun P bs' _ => by
              rw [rdR_re, hq2]
              dsimp only
              rw [hs]
              show (if (sg cf b true k1).kd = 4 then _ else _) = _
              rw [if_pos h4, List.append_assoc]
              rfl
            cases r with
            | bad c q =>
              intro P bs' hbs
              rw [hstep P bs' hbs]
              exact hr P _ (hbs.snoc hl)
            | ok t k2 g2 =>
              intro P bs' hbs hn
              obtain ⟨q1, L, L', q2, q3, q4, q5, q6⟩ := hr P _ (hbs.snoc hl) (n5_snoc hn h5)
              exact ⟨by omega, L, L', q2, q3, q4, q5, by rw [hstep P bs' hbs]; exact q6⟩
          · rw [if_neg h4] at h
            simp only [Option.some.injEq] at h
            subst h
            intro P bs' hbs hn
            refine ⟨hc, bs ++ [t1], bs' ++ [t1'], rfl, by simp, n5_snoc hn h5, hbs.snoc hl, ?_⟩
            rw [rdR_re, hq2]
            dsimp only
            rw [hs]
            show (if (sg cf b true k1).kd = 4 then _ else _) = _
            rw [if_neg h4, List.append_assoc]
    | br items =>
      rw [rdR_br] at h
      have hs := sg_pre cf hp hb true k hk
      have hnx := sg_nx cf b true k hk
      have hby : ∀ s nk its, isByt true s nk its = false := fun _ _ _ => rfl
      have hc1 := cnt_drop b (k := k) (k' := (sg cf b true k).nx) (by omega)
      have hgo : ∀ items', Liks items items' → ∀ its its' k', k' ≤ b.length → cnt (b.drop k') ≤ cnt (b.drop k) → Liks its its' → rdR cf b true n (.br its) k' g o = some r → rdR cf (p ++ b) true (n + 1) (.br items') (k + p.length) (g + g0) o = rdR cf (p ++ b) true n (.br its') (k' + p.length) (g + g0) o → ShfB cf p b g0 (n + 1) items' k g o r := fun items' _ its its' k' h1 h2 h3 h4 h5 => by
        have hr := ih _ _ _ _ _ h1 (by omega) h4
        cases r with
        | bad c q => unfold ShfB; rw [h5]; exact hr its' h3
        | ok t k1 g1 =>
          unfold ShfB
          obtain ⟨q1, t', q2, q3⟩ := hr its' h3
          exact ⟨by omega, t', q2, by rw [h5]; exact q3⟩
      suffices hmain : ∀ items', Liks items items' → ShfB cf p b g0 (n + 1) items' k g o r by
        exact fun items' hi => hmain items' hi
      intro items' hi
      have hiff := hi.nil_iff
      have hun : rdR cf (p ++ b) true (n + 1) (.br items') (k + p.length) (g + g0) o = _ := rdR_br cf (p ++ b) true n items' (k + p.length) (g + g0) o
      rw [hs, hby] at hun
      have e0 : ((sg cf b true k).up p.length).kd = (sg cf b true k).kd := rfl
      have e1 : ((sg cf b true k).up p.length).nx = (sg cf b true k).nx + p.length := rfl
      have e2 : ((sg cf b true k).up p.length).nd = (sg cf b true k).nd := rfl
      have e3 : ((sg cf b true k).up p.length).lo = (sg cf b true k).lo := rfl
      have e4 : ((sg cf b true k).up p.length).hi = (sg cf b true k).hi := rfl
      have e5 : ((sg cf b true k).up p.length).er = upE p.length (sg cf b true k).er := rfl
      rw [e0, e1, e2, e3, e4, e5, if_neg (show ¬ (false = true) by decide), ← hi.endsQ] at hun
      by_cases he : endsB (sg cf b true k).kd = true
      · rw [if_pos he] at h hun
        by_cases hn : items = []
        · rw [if_pos hn] at h
          rw [if_pos (hiff.1 hn)] at hun
          have e := Option.some.inj h
          subst e
          exact hun
        · rw [if_neg hn] at h
          rw [if_neg (fun hh => hn (hiff.2 hh))] at hun
          have e := Option.some.inj h
          subst e
          exact ⟨Nat.le_refl _, _, hi.join 4, hun⟩
      rw [if_neg he] at h hun
      rw [hby, if_neg (show ¬ (false = true) by decide)] at h
      by_cases h1 : (sg cf b true k).kd = 1
      · rw [if_pos h1] at h hun
        by_cases hpp : endsP items = false
        · rw [if_pos hpp] at h hun
          have e := Option.some.inj h
          subst e
          exact hun
        · rw [if_neg hpp] at h hun
          cases hx : (sg cf b true k).er with
          | some cp =>
            obtain ⟨c, q⟩ := cp
            rw [hx] at h hun
            have e := Option.some.inj h
            subst e
            exact hun
          | none =>
            rw [hx] at h hun
            exact hgo items' hi _ _ _ hnx.2 hc1 (hi.rep _ _) h hun
      rw [if_neg h1] at h hun
      by_cases h2 : (sg cf b true k).kd = 2
      · rw [if_pos h2] at h hun
        have hop := cnt_open cf b k hk h2
        rw [if_neg (by omega)] at h hun
        have a1 : g + g0 + 1 = g + 1 + g0 := by omega
        cases hr : rdR cf b true n (.re []) (sg cf b true k).nx (g + 1) (o + 1) with
        | none => rw [hr] at h; cases h
        | some x =>
          rw [hr] at h
          have hq := ih _ _ _ _ _ hnx.2 (by omega) hr
          cases x with
          | bad c q =>
            have e := Option.some.inj h
            subst e
            have hq' := hq [] [] trivial
            rw [a1] at hun
            rw [show ([] : List Nd) ++ [] = [] from rfl] at hq'
            rw [hq'] at hun
            exact hun
          | ok t k1 g1 =>
            obtain ⟨hc2, L, L', rfl, q3, q4, q5, q6⟩ := hq [] [] trivial (fun x hx => by simp at hx)
            have hle := rdR_le cf b true _ _ _ _ _ _ _ _ hr hnx.2
            have hs1 := sg_pre cf hp hb true k1 hle.2
            rw [show ([] : List Nd) ++ [] = [] from rfl, show ([] : List Nd) ++ L' = L' from rfl] at q6
            rw [a1, q6] at hun
            dsimp only at h hun
            rw [hs1] at hun
            have e6 : ((sg cf b true k1).up p.length).kd = (sg cf b true k1).kd := rfl
            have e7 : ((sg cf b true k1).up p.length).nx = (sg cf b true k1).nx + p.length := rfl
            rw [e6, e7] at hun
            by_cases h3 : (sg cf b true k1).kd = 3
            · rw [if_pos h3] at h hun
              have hnx1 := sg_nx cf b true k1 hle.2
              have hc3 := cnt_drop b (k := k1) (k' := (sg cf b true k1).nx) (by omega)
              have hr2 := ih _ _ _ _ _ hnx1.2 (by omega) h
              have hl2 : Liks (items ++ [grpN (g + 1 : Nat) (joinN 5 L)]) (items' ++ [grpN (g + 1 + g0 : Nat) (joinN 5 L')]) := hi.snoc ⟨rfl, rfl⟩
              cases r with
              | bad c q => unfold ShfB; rw [hun]; exact hr2 _ hl2
              | ok t2 k2 g2 =>
                unfold ShfB
                obtain ⟨r1, t', r2, r3⟩ := hr2 _ hl2
                exact ⟨by omega, t', r2, by rw [hun]; exact r3⟩
            · rw [if_neg h3] at h hun
              have e := Option.some.inj h
              subst e
              exact hun
      rw [if_neg h2] at h hun
      cases hx : (sg cf b true k).er with
      | some cp =>
        obtain ⟨c, q⟩ := cp
        rw [hx] at h hun
        have e := Option.some.inj h
        subst e
        exact hun
      | none =>
        rw [hx] at h hun
        exact hgo items' hi _ _ _ hnx.2 hc1 (hi.snoc (Lik.refl _)) h hun

/-! ### Both -/
theorem rdR_mono1 (cf : ByteArray → (Nat → Bool) × Bool) (l : List Int) (ext : Bool) (n : Nat) (md : RM) (k g o : Nat) (r : RR) (h : rdR cf l ext n md k g o = some r) : ∀ m, n ≤ m → rdR cf l ext m md k g o = some r := by
  induction n generalizing md k g o r with
  | zero => simp [rdR] at h
  | succ n ih =>
    intro m hm
    obtain ⟨m, rfl⟩ : ∃ j, m = j + 1 := ⟨m - 1, by omega⟩
    have hm' : n ≤ m := by omega
    cases md with
    | re bs =>
      rw [rdR_re] at h ⊢
      cases hx : rdR cf l ext n (.br []) k g o with
      | none => rw [hx] at h; cases h
      | some x =>
        rw [hx] at h
        rw [ih _ _ _ _ _ hx m hm']
        cases x with
        | bad c p => exact h
        | ok b k1 g1 =>
          dsimp only at h ⊢
          split
          · rename_i h4; rw [if_pos h4] at h; exact ih _ _ _ _ _ h m hm'
          · rename_i h4; rw [if_neg h4] at h; exact h
    | br items =>
      rw [rdR_br] at h ⊢
      split
      · rename_i c; rw [if_pos c] at h; exact h
      rename_i c; rw [if_neg c] at h
      split
      · rename_i c; rw [if_pos c] at h; exact ih _ _ _ _ _ h m hm'
      rename_i c; rw [if_neg c] at h
      split
      · rename_i c; rw [if_pos c] at h
        split
        · rename_i c; rw [if_pos c] at h; exact h
        rename_i c; rw [if_neg c] at h
        cases hx : (sg cf l ext k).er with
        | some cp => rw [hx] at h; exact h
        | none => rw [hx] at h; exact ih _ _ _ _ _ h m hm'
      rename_i c; rw [if_neg c] at h
      split
      · rename_i c; rw [if_pos c] at h
        split
        · rename_i c; rw [if_pos c] at h; exact h
        rename_i c; rw [if_neg c] at h
        cases hr : rdR cf l ext n (.re []) (sg cf l ext k).nx (g + 1) (o + 1) with
        | none => rw [hr] at h; cases h
        | some x =>
          rw [hr] at h
          rw [ih _ _ _ _ _ hr m hm']
          cases x with
          | bad c p => exact h
          | ok t k1 g1 =>
            dsimp only at h ⊢
            split
            · rename_i h3; rw [if_pos h3] at h; exact ih _ _ _ _ _ h m hm'
            · rename_i h3; rw [if_neg h3] at h; exact h
      rename_i c; rw [if_neg c] at h
      cases hx : (sg cf l ext k).er with
      | some cp => rw [hx] at h; exact h
      | none => rw [hx] at h; exact ih _ _ _ _ _ h m hm'
theorem rdR_same {cf : ByteArray → (Nat → Bool) × Bool} {l : List Int} {ext : Bool} {n m : Nat} {md : RM} {k g o : Nat} {r r' : RR} (h : rdR cf l ext n md k g o = some r) (h' : rdR cf l ext m md k g o = some r') : r = r' := by
  have a := rdR_mono1 cf l ext n md k g o r h (n + m) (by omega)
  have b := rdR_mono1 cf l ext m md k g o r' h' (n + m) (by omega)
  rw [a] at b
  exact Option.some.inj b
def endR (cf : ByteArray → (Nat → Bool) × Bool) (l : List Int) : RR → RR
  | .ok t k g => if (sg cf l true k).kd = 5 then .ok t k g else .bad 9 k
  | .bad c p => .bad c p
theorem parseN_rd {cf : ByteArray → (Nat → Bool) × Bool} {l : List Int} {n : Nat} {r : RR} (h : parseN cf l true n = some r) (hl : l.length ≤ 256) : ∃ r0, rdR cf l true n (.re []) 0 0 0 = some r0 ∧ r = endR cf l r0 := by
  unfold parseN at h
  rw [if_neg (by omega)] at h
  cases h0 : rdR cf l true n (.re []) 0 0 0 with
  | none => rw [h0] at h; cases h
  | some r0 =>
    rw [h0] at h
    refine ⟨r0, rfl, ?_⟩
    cases r0 with
    | bad c p => exact (Option.some.inj h).symm
    | ok t k g =>
      unfold endR
      dsimp only at h ⊢
      split
      · rename_i h5; rw [if_pos h5] at h; exact (Option.some.inj h).symm
      · rename_i h5; rw [if_neg h5] at h; exact (Option.some.inj h).symm
theorem parseN_of {cf : ByteArray → (Nat → Bool) × Bool} {l : List Int} {n : Nat} {r0 : RR} (hl : l.length ≤ 256) (h : rdR cf l true n (.re []) 0 0 0 = some r0) : ∀ r, parseN cf l true (fuelR l) = some r → r = endR cf l r0 := by
  intro r hr
  obtain ⟨r1, h1, rfl⟩ := parseN_rd hr hl
  rw [rdR_same h1 h]
/-- What is ahead of the bar is wrong. -/
theorem either_bad {cf : ByteArray → (Nat → Bool) × Bool} (hcf : NoBar cf) {a b : List Int} (ha : Byt a) (hb : Byt b) (hn : NoEsc a) (la : a.length ≤ 120) (lb : b.length ≤ 120) {na c p : Nat} (h : parseN cf a true na = some (.bad c p)) : (p = a.length ∧ 0 < a.length) ∨ parseN cf (barL a b) true (fuelR (barL a b)) = some (.bad c p) := by
  have hl := barL_len a b
  obtain ⟨r, hr⟩ := parseN_some cf (barL a b) true
  obtain ⟨r0, h0, e0⟩ := parseN_rd h (by omega)
  have hcut := rdR_cut hcf ha hb hn (b := b) _ _ _ _ _ _ (Nat.zero_le _) h0
  by_cases hz : a.length = 0
  · right
    have ea : a = [] := List.length_eq_zero_iff.1 hz
    subst ea
    have hbar := sg_at_bar cf [] b
    have hd : (sg cf [] true 0).kd = 5 := sg_end cf [] true 0 (by simp)
    have e1 : r0 = .bad 3 0 := by
      obtain ⟨m, rfl⟩ : ∃ m, na = m + 1 := ⟨na - 1, by cases na with | zero => simp [rdR] at h0 | succ n => simp⟩
      rw [rdR_re] at h0
      obtain ⟨m, rfl⟩ : ∃ m', m = m' + 1 := ⟨m - 1, by cases m with | zero => simp [rdR] at h0 | succ n => simp⟩
      rw [rdR_br, hd, if_pos (by rfl), if_pos rfl] at h0
      simpa using h0.symm
    subst e1
    have e2 : c = 3 ∧ p = 0 := by simpa [endR] using e0
    obtain ⟨rfl, rfl⟩ := e2
    have hrd : rdR cf (barL [] b) true 2 (.re []) 0 0 0 = some (.bad 3 0) := by
      rw [rdR_re, rdR_br]
      have hbar' : sg cf (barL [] b) true 0 = ⟨4, [124], zeroN, 0, 0, none, 1⟩ := hbar
      rw [hbar', if_pos (by rfl), if_pos rfl]
      rfl
    rw [hr, parseN_of (by omega) hrd r hr]
    rfl
  cases r0 with
  | bad c' p' =>
    have e1 : c = c' ∧ p = p' := by simpa [endR] using e0
    obtain ⟨rfl, rfl⟩ := e1
    rcases hcut with e | e
    · exact Or.inl ⟨e, by omega⟩
    · right
      rw [hr, parseN_of (by omega) e r hr]
      rfl
  | ok t k g =>
    unfold endR at e0
    dsimp only at e0
    have hle := rdR_le cf a true _ _ _ _ _ _ _ _ h0 (Nat.zero_le _)
    split at e0
    · cases e0
    · rename_i h5
      have e1 : c = 9 ∧ p = k := by simpa using e0
      obtain ⟨rfl, rfl⟩ := e1
      rcases hcut with ⟨hlt, e⟩ | ⟨e, _⟩
      · right
        rw [hr, parseN_of (by omega) e r hr]
        unfold endR
        have hkd : (sg cf (barL a b) true p).kd ≠ 5 := by
          rcases sg_bar hcf ha hb hn (b := b) hlt with q | ⟨q, _⟩
          · rw [q]; exact h5
          · have h6 := rdR_kend h0
            omega
        dsimp only
        rw [if_neg hkd]
      · left
        exact ⟨e, by omega⟩
def brN (t : Nd) : Nat := if t.kd = 5 then t.kids.len else 1
theorem brN_join {L : List Nd} (h : n5 L) (hne : L ≠ []) : brN (joinN 5 L) = L.length := by
  match L, h, hne with
  | [x], h, _ =>
    show (if x.kd = 5 then _ else 1) = 1
    rw [if_neg (h x (by simp))]
  | a :: b :: l, _, _ =>
    show (if (5 : Int) = 5 then (fo (a :: b :: l)).len else 1) = _
    rw [if_pos rfl, fo_len]
/-- What is ahead of the bar is right: so it goes on behind it. -/
theorem either_go {cf : ByteArray → (Nat → Bool) × Bool} (hcf : NoBar cf) {a b : List Int} (ha : Byt a) (hb : Byt b) (hn : NoEsc a) (la : a.length ≤ 120) (lb : b.length ≤ 120) {na k1 g1 : Nat} {t1 : Nd} (h : parseN cf a true na = some (.ok t1 k1 g1)) {nb : Nat} {r2 : RR} (h2 : parseN cf b true nb = some r2) (hg : g1 + cnt b ≤ 9) :
    match r2 with
    | .bad c p => parseN cf (barL a b) true (fuelR (barL a b)) = some (.bad c (p + (a.length + 1)))
    | .ok t2 _ g2 => ∃ t k, parseN cf (barL a b) true (fuelR (barL a b)) = some (.ok t k (g1 + g2)) ∧ t.kd = 5 ∧ t.kids.len = brN t1 + brN t2 := by
  have hl := barL_len a b
  obtain ⟨r, hr⟩ := parseN_some cf (barL a b) true
  obtain ⟨rr, hrr, er⟩ := parseN_rd hr (by omega)
  obtain ⟨_, h0, hk1, _⟩ := parseN_ok h
  have h0' := rdR_mono1 cf a true _ _ _ _ _ _ h0 (na + fuelR (barL a b)) (by omega)
  have hrr' := rdR_mono1 cf (barL a b) true _ _ _ _ _ _ hrr (na + fuelR (barL a b)) (by omega)
  rcases rdR_cut hcf ha hb hn (b := b) _ _ _ _ _ _ (Nat.zero_le _) h0' with ⟨e, _⟩ | ⟨_, e⟩
  · omega
  obtain ⟨n2, L, hn2, hL, hL5, rfl, hgo⟩ := e (fun x hx => by simp at hx)
  rw [hrr'] at hgo
  obtain ⟨r0, hb0, e0⟩ := parseN_rd h2 (by omega)
  have hpa : Byt (a ++ [124]) := byt_app ha (fun i => by cases i <;> simp)
  have hpl : (a ++ [124]).length = a.length + 1 := by simp
  have hlb : barL a b = (a ++ [124]) ++ b := by unfold barL; simp
  have hs := rdR_shf cf hpa hb g1 _ _ _ _ _ _ (Nat.zero_le _) (by simp only [List.drop_zero]; omega) hb0
  have hsg : ∀ k, k ≤ b.length → (sg cf (barL a b) true (k + (a.length + 1))).kd = (sg cf b true k).kd := fun k hk => by
    have := sg_pre cf hpa hb true k hk
    rw [hpl, ← hlb] at this
    rw [this]
    rfl
  cases r0 with
  | bad c q =>
    unfold ShfR at hs
    have q1 := hs L [] trivial
    rw [hpl, ← hlb] at q1
    rw [List.append_nil, Nat.zero_add, Nat.zero_add] at q1
    have e1 := rdR_same hgo.symm q1
    subst e1
    subst e0
    subst er
    exact hr
  | ok t k g =>
    obtain ⟨_, L2, L2', rfl, q3, q4, q5, q6⟩ := hs L [] trivial (fun x hx => by simp at hx)
    rw [hpl, ← hlb] at q6
    rw [List.append_nil, Nat.zero_add, Nat.zero_add] at q6
    have e1 := rdR_same hgo.symm q6
    subst e1
    have hle := rdR_le cf b true _ _ _ _ _ _ _ _ hb0 (Nat.zero_le _)
    have hk := hsg k hle.2
    unfold endR at e0 er
    dsimp only at e0 er
    rw [hk] at er
    by_cases h5 : (sg cf b true k).kd = 5
    · rw [if_pos h5] at e0 er
      subst e0
      subst er
      rw [Nat.add_comm g g1] at hr
      refine ⟨_, _, hr, ?_⟩
      rw [brN_join hL5 hL, brN_join q4 q3, q5.len]
      have hl1 : 1 ≤ L.length := List.length_pos_iff.2 hL
      have hl2 : 1 ≤ L2'.length := by rw [← q5.len]; exact List.length_pos_iff.2 q3
      have hj : ∀ l : List Nd, 2 ≤ l.length → joinN 5 l = ⟨5, noP, 0, 0, 0, fo l⟩ := fun l h => by
        match l, h with
        | _ :: _ :: _, _ => rfl
      rw [hj _ (by rw [List.length_append]; omega)]
      refine ⟨rfl, ?_⟩
      show (fo (L ++ L2')).len = _
      rw [fo_len, List.length_append]
    · rw [if_neg h5] at e0 er
      subst e0
      subst er
      exact hr
end Go.Proofs.YthmgcebonplcgaaGreatDoor
/- A table of classes in which no name has a bar. -/
namespace Go.Proofs.YthmgcebonplcgaaGreatDoor
open Go.RowKit

theorem bar_other (nm : ByteArray) (h : 124 ∈ bys nm) (w : World) : Calls Tryz.prog 130 #[.string nm] w fun e w' => e = .returned (.tuple #[SV noP, .bool false]) ∧ Below w.heap.size w w' := by
  have ne : ∀ l : List UInt8, (l.contains 124) = false → ¬ nm = ⟨l.toArray⟩ := fun l hl e => by
    subst e
    unfold bys at h
    simp only [List.mem_map] at h
    obtain ⟨x, hx, hx2⟩ := h
    have hx3 : x = 124 := by
      have : x.toNat = 124 := by omega
      exact UInt8.toNat_inj.1 (this.trans rfl)
    subst hx3
    rw [List.contains_eq_mem] at hl
    have : (124 : UInt8) ∈ l := by simpa using hx
    simp [this] at hl
  have := class_of nm noP (fun w => named_other nm (tl_noX nm [97, 108, 112, 104, 97] (ne [97, 108, 112, 104, 97] (by decide))) (tl_noX nm [100, 105, 103, 105, 116] (ne [100, 105, 103, 105, 116] (by decide))) (tl_noX nm [97, 108, 110, 117, 109] (ne [97, 108, 110, 117, 109] (by decide))) (tl_noX nm [117, 112, 112, 101, 114] (ne [117, 112, 112, 101, 114] (by decide))) (tl_noX nm [108, 111, 119, 101, 114] (ne [108, 111, 119, 101, 114] (by decide))) (tl_noX nm [115, 112, 97, 99, 101] (ne [115, 112, 97, 99, 101] (by decide))) (tl_noX nm [98, 108, 97, 110, 107] (ne [98, 108, 97, 110, 107] (by decide))) (tl_noX nm [112, 114, 105, 110, 116] (ne [112, 114, 105, 110, 116] (by decide))) (tl_noX nm [103, 114, 97, 112, 104] (ne [103, 114, 97, 112, 104] (by decide))) (tl_noX nm [112, 117, 110, 99, 116] (ne [112, 117, 110, 99, 116] (by decide))) (tl_noX nm [99, 110, 116, 114, 108] (ne [99, 110, 116, 114, 108] (by decide))) (tl_noX nm [120, 100, 105, 103, 105, 116] (ne [120, 100, 105, 103, 105, 116] (by decide))) w) w
  rwa [show anyS noP = false by kernel_rfl] at this
/-- Names with a bar are none. -/
def cutBar (cf : ByteArray → (Nat → Bool) × Bool) (nm : ByteArray) : (Nat → Bool) × Bool := if 124 ∈ bys nm then (noP, false) else cf nm
theorem cutBar_ok {cf : ByteArray → (Nat → Bool) × Bool} (h : ClassOk cf) : ClassOk (cutBar cf) ∧ NoBar (cutBar cf) := by
  refine ⟨⟨fun nm => ?_, ?_, fun nm w => ?_⟩, fun nm hm => ?_⟩
  · unfold cutBar
    split
    · intro _ _ _; rfl
    · exact h.no nm
  · unfold cutBar
    rw [if_neg (by unfold bys; simp)]
    exact h.empty
  · unfold cutBar
    split
    · rename_i hm; exact bar_other nm hm w
    · exact h.prog nm w
  · unfold cutBar
    rw [if_pos hm]
end Go.Proofs.YthmgcebonplcgaaGreatDoor
