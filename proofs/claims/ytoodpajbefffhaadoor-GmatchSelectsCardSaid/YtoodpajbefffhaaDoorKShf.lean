/- KShf: several texts in one (kmerge.py). -/
import Derived.Test.YtoodpajbefffhaaDoorKItx
/- A bracket with one byte more ahead; with other bytes behind. -/
namespace Go.Proofs.YtoodpajbefffhaaDoor
open Go.RowKit

/-! ### One byte more ahead -/
/-! ### Other bytes behind -/
theorem brkL_gt (cf : ByteArray → (Nat → Bool) × Bool) {s : ByteArray} {g : Bool} : ∀ (n k : Nat) (f : Bool) (p q : Nat → Bool) (m : Nat), brkL cf s g n k f p = .ok q m → k < m ∧ m ≤ s.size ∧ (¬ (f = false ∧ atB s k = 93) → k + 1 < m) := by
  intro n
  induction n with
  | zero => intro k f p q m h; cases h
  | succ n ih =>
    intro k f p q m h
    unfold brkL at h
    split at h
    · rename_i c1
      have e : k + 1 = m := by injection h
      have := atB_in (s := s) (k := k) (by rw [c1.2]; decide)
      exact ⟨by omega, by omega, fun hh => absurd c1 hh⟩
    · cases hp : partR cf s g k with
      | bad c pos => rw [hp] at h; cases h
      | ok r nx =>
        rw [hp] at h
        simp only at h
        have b1 := partR_next hp
        have b2 := ih nx false _ q m h
        exact ⟨by omega, b2.2.1, fun _ => by omega⟩
end Go.Proofs.YtoodpajbefffhaaDoor
/- The reference's bracket, read by a function; it is the program's (pure). -/
namespace Go.Proofs.YtoodpajbefffhaaDoor
open Go.RowKit

/-- The reference's loop: from place k on, in the whole text. -/
def refL (cf : ByteArray → (Nat → Bool) × Bool) (s : ByteArray) (glob : Bool) : Nat → Nat → Bool → (Nat → Bool) → BR
  | 0, _, _, _ => .bad 0 0
  | n + 1, k, first, p =>
    if s.size ≤ k then .bad 8 s.size
    else if first = false ∧ atB s k = 93 then .ok p (k + 1)
    else match itemR cf s glob k with
      | .bad pos => .bad 8 pos
      | .cls q nx => refL cf s glob n nx false (orP p q)
      | .byt c nx =>
        if s.size ≤ nx + 1 ∨ ¬ atB s nx = 45 ∨ atB s (nx + 1) = 93 then refL cf s glob n nx false (plus p c.toNat)
        else match itemR cf s glob (nx + 1) with
          | .bad pos => .bad 8 pos
          | .cls _ _ => .bad 8 (nx + 1)
          | .byt d nx2 => if d < c then .bad 7 k else refL cf s glob n nx2 false (orP p (rng c.toNat d.toNat))
theorem plus_rng (p : Nat → Bool) (c : Nat) : plus p c = orP p (rng c c) := by
  funext k
  unfold plus orP rng
  congr 1
  rw [Bool.eq_iff_iff]
  simp only [beq_iff_eq, Bool.and_eq_true, decide_eq_true_eq]
  omega
theorem brkL_out (cf : ByteArray → (Nat → Bool) × Bool) (s : ByteArray) (g : Bool) (n k : Nat) (f : Bool) (p : Nat → Bool) (hk : k = s.size) : brkL cf s g (n + 1) k f p = .bad 8 s.size := by
  unfold brkL
  rw [if_neg (fun h => by have := atB_out (s := s) (k := k) (by omega); rw [this] at h; exact absurd h.2 (by decide))]
  have hp : partR cf s g k = .bad 8 k := by
    unfold partR
    rw [itemR_end (by omega)]
  rw [hp, hk]
/-- A '-' alone at the end. -/
theorem itemR_dash (cf : ByteArray → (Nat → Bool) × Bool) (s : ByteArray) (g : Bool) (k : Nat) (h : atB s k = 45) : itemR cf s g k = .byt 45 (k + 1) := by
  have hk := atB_in (s := s) (k := k) (by rw [h]; decide)
  unfold itemR
  rw [h, if_neg (fun h => absurd h.1 (by decide)), if_neg (fun h => absurd h.1 (by decide)), if_neg (fun h => absurd h.2 (by decide)), if_pos hk]
theorem refL_brkL (cf : ByteArray → (Nat → Bool) × Bool) (s : ByteArray) (g : Bool) : ∀ (n k : Nat) (f : Bool) (p : Nat → Bool), k ≤ s.size → s.size + 1 - k ≤ n → refL cf s g n k f p = brkL cf s g n k f p
  | 0, k, _, _, h1, h2 => absurd h2 (by omega)
  | n + 1, k, f, p, hk, hn => by
    by_cases hz : s.size ≤ k
    · unfold refL
      rw [if_pos hz, brkL_out cf s g n k f p (by omega)]
    · unfold refL brkL
      rw [if_neg hz]
      by_cases hf : f = false ∧ atB s k = 93
      · rw [if_pos hf, if_pos hf]
      · rw [if_neg hf, if_neg hf]
        unfold partR
        cases hi : itemR cf s g k with
        | bad pos => rfl
        | cls q nx =>
          have := itemR_next hi
          exact refL_brkL cf s g n nx false _ (by omega) (by omega)
        | byt c nx =>
          have hb := itemR_byte hi
          simp only
          by_cases hd : atB s nx = 45 ∧ ¬ atB s (nx + 1) = 93
          · rw [if_pos hd]
            have hnx := atB_in (s := s) (k := nx) (by rw [hd.1]; decide)
            by_cases he : s.size ≤ nx + 1
            · have hbad : itemR cf s g (nx + 1) = .bad (nx + 1) := itemR_end he
              rw [if_pos (Or.inl he), hbad]
              simp only
              rw [refL_brkL cf s g n nx false _ (by omega) (by omega)]
              obtain ⟨m, hm⟩ : ∃ m, n = m + 1 + 1 := ⟨n - 2, by omega⟩
              subst hm
              unfold brkL
              have hp : partR cf s g nx = .ok (rng (45 : Int).toNat (45 : Int).toNat) (nx + 1) := by
                unfold partR
                rw [itemR_dash cf s g nx hd.1]
                simp only
                rw [if_neg (fun h => by have := atB_out (s := s) (k := nx + 1) he; rw [this] at h; exact absurd h.1 (by decide))]
              rw [if_neg (fun h => by rw [hd.1] at h; exact absurd h.2 (by decide)), hp]
              simp only
              rw [brkL_out cf s g m (nx + 1) _ _ (by omega)]
              congr 1
              omega
            · rw [if_neg (fun h => h.elim he fun h => h.elim (fun h => h hd.1) hd.2)]
              cases hj : itemR cf s g (nx + 1) with
              | bad pos => rfl
              | cls q nx2 => rfl
              | byt d nx2 =>
                have hb2 := itemR_byte hj
                simp only
                by_cases hdc : d < c
                · rw [if_pos hdc, if_pos hdc]
                · rw [if_neg hdc, if_neg hdc]
                  exact refL_brkL cf s g n nx2 false _ (by omega) (by omega)
          · have hor : s.size ≤ nx + 1 ∨ ¬ atB s nx = 45 ∨ atB s (nx + 1) = 93 := by
              by_cases h45 : atB s nx = 45
              · by_cases h93 : atB s (nx + 1) = 93
                · exact Or.inr (Or.inr h93)
                · exact absurd ⟨h45, h93⟩ hd
              · exact Or.inr (Or.inl h45)
            rw [if_pos hor, if_neg hd, plus_rng]
            exact refL_brkL cf s g n nx false _ (by omega) (by omega)
end Go.Proofs.YtoodpajbefffhaaDoor
/- A bracket within a text: places moved (pure). -/
namespace Go.Proofs.YtoodpajbefffhaaDoor
open Go.RowKit

/-- s' is s from place a on. -/
structure Sh (s s' : ByteArray) (a : Nat) : Prop where
  at' : ∀ j, atB s' j = atB s (a + j)
  size : s.size = a + s'.size
  ext : ∀ i j, s'.extract i j = s.extract (a + i) (a + j)
def shI (a : Nat) : IR → IR
  | .bad pos => .bad (a + pos)
  | .cls p nx => .cls p (a + nx)
  | .byt c nx => .byt c (a + nx)
def shP (a : Nat) : PR → PR
  | .bad c pos => .bad c (a + pos)
  | .ok p nx => .ok p (a + nx)
def shB (a : Nat) : BR → BR
  | .bad c pos => .bad c (a + pos)
  | .ok p nx => .ok p (a + nx)
theorem cnE_sh {s s' : ByteArray} {a : Nat} (h : Sh s s' a) : ∀ n j, cnE s n (a + j) = (cnE s' n j).map (a + ·)
  | 0, _ => rfl
  | n + 1, j => by
    unfold cnE
    rw [h.at' j, h.at' (j + 1), ← Nat.add_assoc]
    by_cases hc : atB s (a + j) = 58 ∧ atB s (a + j + 1) = 93
    · rw [if_pos hc, if_pos hc]; rfl
    · rw [if_neg hc, if_neg hc, Nat.add_assoc]
      exact cnE_sh h n (j + 1)
theorem itemR_sh (cf : ByteArray → (Nat → Bool) × Bool) {s s' : ByteArray} {a : Nat} (h : Sh s s' a) (g : Bool) (k : Nat) : itemR cf s g (a + k) = shI a (itemR cf s' g k) := by
  have e0 := h.at' k
  have e1 := h.at' (k + 1)
  have hz := h.size
  unfold itemR
  rw [e0, e1, ← Nat.add_assoc]
  by_cases h1 : atB s (a + k) = 91 ∧ atB s (a + k + 1) = 58
  · rw [if_pos h1, if_pos h1]
    have hc := cnE_sh h (s'.size - (k + 2)) (k + 2)
    rw [show a + (k + 2) = a + k + 2 by omega] at hc
    rw [show s.size - (a + k + 2) = s'.size - (k + 2) by omega, hc]
    cases hx : cnE s' (s'.size - (k + 2)) (k + 2) with
    | none => rfl
    | some e =>
      simp only [Option.map_some]
      rw [h.ext, show a + (k + 2) = a + k + 2 by omega]
      by_cases hcf : (cf (s.extract (a + k + 2) (a + e))).2 = true
      · rw [if_pos hcf, if_pos hcf]; rfl
      · rw [if_neg hcf, if_neg hcf]; rfl
  · rw [if_neg h1, if_neg h1]
    by_cases h2 : atB s (a + k) = 91 ∧ (atB s (a + k + 1) = 46 ∨ atB s (a + k + 1) = 61)
    · rw [if_pos h2, if_pos h2]; rfl
    · rw [if_neg h2, if_neg h2]
      by_cases h3 : g = true ∧ atB s (a + k) = 92
      · rw [if_pos h3, if_pos h3]
        by_cases h4 : k + 1 < s'.size
        · rw [if_pos h4, if_pos (by omega)]; rfl
        · rw [if_neg h4, if_neg (by omega)]; rfl
      · rw [if_neg h3, if_neg h3]
        by_cases h4 : k < s'.size
        · rw [if_pos h4, if_pos (by omega)]; rfl
        · rw [if_neg h4, if_neg (by omega)]; rfl
theorem partR_sh (cf : ByteArray → (Nat → Bool) × Bool) {s s' : ByteArray} {a : Nat} (h : Sh s s' a) (g : Bool) (k : Nat) : partR cf s g (a + k) = shP a (partR cf s' g k) := by
  unfold partR
  rw [itemR_sh cf h g k]
  cases itemR cf s' g k with
  | bad pos => rfl
  | cls p nx => rfl
  | byt c nx =>
    simp only [shI]
    rw [h.at' nx, h.at' (nx + 1), ← Nat.add_assoc]
    by_cases hd : atB s (a + nx) = 45 ∧ ¬ atB s (a + nx + 1) = 93
    · rw [if_pos hd, if_pos hd, Nat.add_assoc, itemR_sh cf h g (nx + 1)]
      cases itemR cf s' g (nx + 1) with
      | bad pos => rfl
      | cls p nx2 => rfl
      | byt d nx2 =>
        simp only [shI]
        by_cases hdc : d < c
        · rw [if_pos hdc, if_pos hdc]; rfl
        · rw [if_neg hdc, if_neg hdc]; rfl
    · rw [if_neg hd, if_neg hd]; rfl
theorem brkL_sh (cf : ByteArray → (Nat → Bool) × Bool) {s s' : ByteArray} {a : Nat} (h : Sh s s' a) (g : Bool) : ∀ (n k : Nat) (f : Bool) (p : Nat → Bool), 0 < n → s'.size + 1 - k ≤ n → k ≤ s'.size → brkL cf s g n (a + k) f p = shB a (brkL cf s' g n k f p)
  | 0, _, _, _, h0, _, _ => absurd h0 (Nat.lt_irrefl _)
  | n + 1, k, f, p, _, hn, hk => by
    unfold brkL
    rw [h.at' k]
    by_cases hf : f = false ∧ atB s (a + k) = 93
    · rw [if_pos hf, if_pos hf]; rfl
    · rw [if_neg hf, if_neg hf, partR_sh cf h g k]
      cases hp : partR cf s' g k with
      | bad c pos => rfl
      | ok q nx =>
        have := partR_next hp
        exact brkL_sh cf h g n nx false _ (by omega) (by omega) (by omega)
theorem brkT_sh (t : Bool) (a : Nat) (r : BR) : brkT t (shB a r) = shB a (brkT t r) := by cases r <;> rfl
theorem brkR_sh (cf : ByteArray → (Nat → Bool) × Bool) {s s' : ByteArray} {a : Nat} (h : Sh s s' a) (g : Bool) : brkR cf s g a = shB a (brkR cf s' g 0) := by
  have hz := h.size
  have e0 := h.at' 0
  rw [Nat.add_zero] at e0
  unfold brkR
  rw [e0]
  by_cases hc : atB s a = 94 ∨ (g = true ∧ atB s a = 33)
  · rw [if_pos hc, if_pos hc]
    have h0 := atB_in (s := s') (k := 0) (by rw [e0]; rcases hc with hc | hc <;> omega)
    have := brkL_sh cf h g (s'.size + 1 - (0 + 1)) (0 + 1) true noP (by omega) (by omega) (by omega)
    rw [show s.size + 1 - (a + 1) = s'.size + 1 - (0 + 1) by omega, ← brkT_sh, ← this]
  · rw [if_neg hc, if_neg hc]
    have := brkL_sh cf h g (s'.size + 1 - 0) 0 true noP (by omega) (by omega) (by omega)
    rw [show s.size + 1 - a = s'.size + 1 - 0 by omega, ← brkT_sh, ← this]
    rfl
theorem sh_drop {l : List Int} (h : Byt l) (a : Nat) (ha : a ≤ l.length) : Sh (ofBys l) (ofBys (l.drop a)) a := by
  have hd : Byt (l.drop a) := fun i => by
    have := h (a + i)
    rwa [show (l.drop a).getD i 0 = l.getD (a + i) 0 by simp [List.getD]]
  refine ⟨fun j => ?_, ?_, fun i j => ?_⟩
  · unfold atB
    rw [bys_ofBys hd, bys_ofBys h]
    simp [List.getD]
  · rw [ofBys_size, ofBys_size, List.length_drop]; omega
  · unfold ofBys
    rw [ByteArray.ext_iff]
    simp only [ByteArray.data_extract]
    apply Array.ext'
    simp [← List.map_drop, List.drop_drop, Nat.add_sub_add_left]
end Go.Proofs.YtoodpajbefffhaaDoor
/- The reference's item: all ways but the class's (gen_rfi.py). -/
namespace Go.Proofs.YtoodpajbefffhaaDoor
open Go.RowKit

theorem z_no : SV noP = .agg #[.int .u64 0, .int .u64 0, .int .u64 0, .int .u64 0] := by
  have z : ∀ i, ((sw noP i : Nat) : Int) = 0 := sw_zero
  unfold SV
  rw [z, z, z, z]

set_option maxRecDepth 100000 in
set_option maxHeartbeats 8000000 in
theorem ritem_plain (x o cap : Nat) (l : List Int) (k : Nat) (lg : Int) (w : World) (hs : Sl w (.slice (some ⟨x, o, none⟩) l.length cap) l) (hk : k < l.length) (h91 : ¬ l.getD k 0 = 91) (h92 : ¬ l.getD k 0 = 92) :
    Calls Tryd.prog 24 #[.slice (some ⟨x, o, none⟩) l.length cap, .int .i64 k, .int .i64 lg] w fun e w' => e = .returned (.tuple #[.int .i64 (l.getD k 0), .agg #[.int .u64 0, .int .u64 0, .int .u64 0, .int .u64 0], .int .i64 ((k : Int) + 1), .int .i64 0, .int .i64 0]) ∧ Below w.heap.size w w' := by
  obtain ⟨hy, hl, ⟨rfl, _⟩ | ⟨x', o', cap', he, hcl, hcm, hr⟩⟩ := hs
  · simp at hk
  simp only [Value.slice.injEq, Option.some.injEq, Addr.mk.injEq] at he
  obtain ⟨⟨rfl, rfl, _⟩, _, rfl⟩ := he
  have p0 := hr k hk
  have hxz := World.block_lt_of_cell? _ _ p0
  simp only at hxz
  have b0 := hy k
  have hkI : (k : Int) < (l.length : Int) := by omega
  have e1 : (l.getD k 0 == 91) = false := beq_eq_false_iff_ne.2 h91
  have e2 : (l.getD k 0 == 92) = false := beq_eq_false_iff_ne.2 h92
  clear hr hy
  generalize l.getD k 0 = c at *
  go_enter Tryd.func24, Tryd.ntmps24
  go_wp2_with fail
  exact bodyPost_ret (by first | (simp [results, Tryd.results24, go_sem]; done) | (simp [results, Tryd.results24, go_sem]; rfl)) rfl ⟨rfl, (Below.refl _ _).alloc (Nat.le_refl _) _⟩

set_option maxRecDepth 100000 in
set_option maxHeartbeats 8000000 in
theorem ritem_dot (x o cap : Nat) (l : List Int) (k : Nat) (lg : Int) (w : World) (hs : Sl w (.slice (some ⟨x, o, none⟩) l.length cap) l) (hk : k < l.length) (h91 : l.getD k 0 = 91) (h1 : k + 1 < l.length) (h2 : l.getD (k + 1) 0 = 46) :
    Calls Tryd.prog 24 #[.slice (some ⟨x, o, none⟩) l.length cap, .int .i64 k, .int .i64 lg] w fun e w' => e = .returned (.tuple #[.int .i64 0, .agg #[.int .u64 0, .int .u64 0, .int .u64 0, .int .u64 0], .int .i64 k, .int .i64 8, .int .i64 k]) ∧ Below w.heap.size w w' := by
  obtain ⟨hy, hl, ⟨rfl, _⟩ | ⟨x', o', cap', he, hcl, hcm, hr⟩⟩ := hs
  · simp at hk
  simp only [Value.slice.injEq, Option.some.injEq, Addr.mk.injEq] at he
  obtain ⟨⟨rfl, rfl, _⟩, _, rfl⟩ := he
  have p0 := hr k hk
  have hxz := World.block_lt_of_cell? _ _ p0
  simp only at hxz
  have b0 := hy k
  have hkI : (k : Int) < (l.length : Int) := by omega
  have h1b : (k : Int) + 1 < (l.length : Int) := by omega
  have p1 := hr (k + 1) h1
  have b1 := hy (k + 1)
  have e1 : (l.getD k 0 == 91) = true := by rw [h91]; rfl
  have e3 : (l.getD (k + 1) 0 == 46) = true := by rw [h2]; rfl
  clear h91 h2
  generalize l.getD (k + 1) 0 = c1 at *
  clear hr hy
  generalize l.getD k 0 = c at *
  go_enter Tryd.func24, Tryd.ntmps24
  go_wp2_with fail
  exact bodyPost_ret (by first | (simp [results, Tryd.results24, go_sem]; done) | (simp [results, Tryd.results24, go_sem]; rfl)) rfl ⟨rfl, (Below.refl _ _).alloc (Nat.le_refl _) _⟩

set_option maxRecDepth 100000 in
set_option maxHeartbeats 8000000 in
theorem ritem_eq (x o cap : Nat) (l : List Int) (k : Nat) (lg : Int) (w : World) (hs : Sl w (.slice (some ⟨x, o, none⟩) l.length cap) l) (hk : k < l.length) (h91 : l.getD k 0 = 91) (h1 : k + 1 < l.length) (h2 : l.getD (k + 1) 0 = 61) :
    Calls Tryd.prog 24 #[.slice (some ⟨x, o, none⟩) l.length cap, .int .i64 k, .int .i64 lg] w fun e w' => e = .returned (.tuple #[.int .i64 0, .agg #[.int .u64 0, .int .u64 0, .int .u64 0, .int .u64 0], .int .i64 k, .int .i64 8, .int .i64 k]) ∧ Below w.heap.size w w' := by
  obtain ⟨hy, hl, ⟨rfl, _⟩ | ⟨x', o', cap', he, hcl, hcm, hr⟩⟩ := hs
  · simp at hk
  simp only [Value.slice.injEq, Option.some.injEq, Addr.mk.injEq] at he
  obtain ⟨⟨rfl, rfl, _⟩, _, rfl⟩ := he
  have p0 := hr k hk
  have hxz := World.block_lt_of_cell? _ _ p0
  simp only at hxz
  have b0 := hy k
  have hkI : (k : Int) < (l.length : Int) := by omega
  have h1b : (k : Int) + 1 < (l.length : Int) := by omega
  have p1 := hr (k + 1) h1
  have b1 := hy (k + 1)
  have e1 : (l.getD k 0 == 91) = true := by rw [h91]; rfl
  have e4 : (l.getD (k + 1) 0 == 61) = true := by rw [h2]; rfl
  have e3 : (l.getD (k + 1) 0 == 46) = false := by rw [h2]; rfl
  clear h91 h2
  generalize l.getD (k + 1) 0 = c1 at *
  clear hr hy
  generalize l.getD k 0 = c at *
  go_enter Tryd.func24, Tryd.ntmps24
  go_wp2_with fail
  exact bodyPost_ret (by first | (simp [results, Tryd.results24, go_sem]; done) | (simp [results, Tryd.results24, go_sem]; rfl)) rfl ⟨rfl, (Below.refl _ _).alloc (Nat.le_refl _) _⟩

set_option maxRecDepth 100000 in
set_option maxHeartbeats 8000000 in
theorem ritem_last (x o cap : Nat) (l : List Int) (k : Nat) (lg : Int) (w : World) (hs : Sl w (.slice (some ⟨x, o, none⟩) l.length cap) l) (hk : k < l.length) (h91 : l.getD k 0 = 91) (h1 : ¬ k + 1 < l.length) :
    Calls Tryd.prog 24 #[.slice (some ⟨x, o, none⟩) l.length cap, .int .i64 k, .int .i64 lg] w fun e w' => e = .returned (.tuple #[.int .i64 (l.getD k 0), .agg #[.int .u64 0, .int .u64 0, .int .u64 0, .int .u64 0], .int .i64 ((k : Int) + 1), .int .i64 0, .int .i64 0]) ∧ Below w.heap.size w w' := by
  obtain ⟨hy, hl, ⟨rfl, _⟩ | ⟨x', o', cap', he, hcl, hcm, hr⟩⟩ := hs
  · simp at hk
  simp only [Value.slice.injEq, Option.some.injEq, Addr.mk.injEq] at he
  obtain ⟨⟨rfl, rfl, _⟩, _, rfl⟩ := he
  have p0 := hr k hk
  have hxz := World.block_lt_of_cell? _ _ p0
  simp only at hxz
  have b0 := hy k
  have hkI : (k : Int) < (l.length : Int) := by omega
  have h1b : ¬ (k : Int) + 1 < (l.length : Int) := by omega
  have h1d : decide ((k : Int) + 1 < (l.length : Int)) = false := decide_eq_false h1b
  have e1 : (l.getD k 0 == 91) = true := by rw [h91]; rfl
  have e2 : (l.getD k 0 == 92) = false := by rw [h91]; rfl
  clear h91
  clear hr hy
  generalize l.getD k 0 = c at *
  go_enter Tryd.func24, Tryd.ntmps24
  go_wp2_with fail
  exact bodyPost_ret (by first | (simp [results, Tryd.results24, go_sem]; done) | (simp [results, Tryd.results24, go_sem]; rfl)) rfl ⟨rfl, (Below.refl _ _).alloc (Nat.le_refl _) _⟩

set_option maxRecDepth 100000 in
set_option maxHeartbeats 8000000 in
theorem ritem_open (x o cap : Nat) (l : List Int) (k : Nat) (lg : Int) (w : World) (hs : Sl w (.slice (some ⟨x, o, none⟩) l.length cap) l) (hk : k < l.length) (h91 : l.getD k 0 = 91) (h1 : k + 1 < l.length) (n46 : ¬ l.getD (k + 1) 0 = 46) (n61 : ¬ l.getD (k + 1) 0 = 61) (n58 : ¬ l.getD (k + 1) 0 = 58) :
    Calls Tryd.prog 24 #[.slice (some ⟨x, o, none⟩) l.length cap, .int .i64 k, .int .i64 lg] w fun e w' => e = .returned (.tuple #[.int .i64 (l.getD k 0), .agg #[.int .u64 0, .int .u64 0, .int .u64 0, .int .u64 0], .int .i64 ((k : Int) + 1), .int .i64 0, .int .i64 0]) ∧ Below w.heap.size w w' := by
  obtain ⟨hy, hl, ⟨rfl, _⟩ | ⟨x', o', cap', he, hcl, hcm, hr⟩⟩ := hs
  · simp at hk
  simp only [Value.slice.injEq, Option.some.injEq, Addr.mk.injEq] at he
  obtain ⟨⟨rfl, rfl, _⟩, _, rfl⟩ := he
  have p0 := hr k hk
  have hxz := World.block_lt_of_cell? _ _ p0
  simp only at hxz
  have b0 := hy k
  have hkI : (k : Int) < (l.length : Int) := by omega
  have h1b : (k : Int) + 1 < (l.length : Int) := by omega
  have p1 := hr (k + 1) h1
  have b1 := hy (k + 1)
  have e1 : (l.getD k 0 == 91) = true := by rw [h91]; rfl
  have e2 : (l.getD k 0 == 92) = false := by rw [h91]; rfl
  have e3 : (l.getD (k + 1) 0 == 46) = false := beq_eq_false_iff_ne.2 n46
  have e4 : (l.getD (k + 1) 0 == 61) = false := beq_eq_false_iff_ne.2 n61
  have e5 : (l.getD (k + 1) 0 == 58) = false := beq_eq_false_iff_ne.2 n58
  clear h91 n46 n61 n58
  generalize l.getD (k + 1) 0 = c1 at *
  clear hr hy
  generalize l.getD k 0 = c at *
  go_enter Tryd.func24, Tryd.ntmps24
  go_wp2_with fail
  exact bodyPost_ret (by first | (simp [results, Tryd.results24, go_sem]; done) | (simp [results, Tryd.results24, go_sem]; rfl)) rfl ⟨rfl, (Below.refl _ _).alloc (Nat.le_refl _) _⟩

set_option maxRecDepth 100000 in
set_option maxHeartbeats 8000000 in
theorem ritem_slash (x o cap : Nat) (l : List Int) (k : Nat) (lg : Int) (w : World) (hs : Sl w (.slice (some ⟨x, o, none⟩) l.length cap) l) (hk : k < l.length) (h92 : l.getD k 0 = 92) (hlg : ¬ lg = 2) :
    Calls Tryd.prog 24 #[.slice (some ⟨x, o, none⟩) l.length cap, .int .i64 k, .int .i64 lg] w fun e w' => e = .returned (.tuple #[.int .i64 (l.getD k 0), .agg #[.int .u64 0, .int .u64 0, .int .u64 0, .int .u64 0], .int .i64 ((k : Int) + 1), .int .i64 0, .int .i64 0]) ∧ Below w.heap.size w w' := by
  obtain ⟨hy, hl, ⟨rfl, _⟩ | ⟨x', o', cap', he, hcl, hcm, hr⟩⟩ := hs
  · simp at hk
  simp only [Value.slice.injEq, Option.some.injEq, Addr.mk.injEq] at he
  obtain ⟨⟨rfl, rfl, _⟩, _, rfl⟩ := he
  have p0 := hr k hk
  have hxz := World.block_lt_of_cell? _ _ p0
  simp only at hxz
  have b0 := hy k
  have hkI : (k : Int) < (l.length : Int) := by omega
  have e2 : (l.getD k 0 == 92) = true := by rw [h92]; rfl
  have e1 : (l.getD k 0 == 91) = false := by rw [h92]; rfl
  have e6 : (lg == 2) = false := beq_eq_false_iff_ne.2 hlg
  clear h92 hlg
  clear hr hy
  generalize l.getD k 0 = c at *
  go_enter Tryd.func24, Tryd.ntmps24
  go_wp2_with fail
  exact bodyPost_ret (by first | (simp [results, Tryd.results24, go_sem]; done) | (simp [results, Tryd.results24, go_sem]; rfl)) rfl ⟨rfl, (Below.refl _ _).alloc (Nat.le_refl _) _⟩

set_option maxRecDepth 100000 in
set_option maxHeartbeats 8000000 in
theorem ritem_esc (x o cap : Nat) (l : List Int) (k : Nat) (lg : Int) (w : World) (hs : Sl w (.slice (some ⟨x, o, none⟩) l.length cap) l) (hk : k < l.length) (h92 : l.getD k 0 = 92) (hlg : lg = 2) (h1 : k + 1 < l.length) :
    Calls Tryd.prog 24 #[.slice (some ⟨x, o, none⟩) l.length cap, .int .i64 k, .int .i64 lg] w fun e w' => e = .returned (.tuple #[.int .i64 (l.getD (k + 1) 0), .agg #[.int .u64 0, .int .u64 0, .int .u64 0, .int .u64 0], .int .i64 ((k : Int) + 2), .int .i64 0, .int .i64 0]) ∧ Below w.heap.size w w' := by
  obtain ⟨hy, hl, ⟨rfl, _⟩ | ⟨x', o', cap', he, hcl, hcm, hr⟩⟩ := hs
  · simp at hk
  simp only [Value.slice.injEq, Option.some.injEq, Addr.mk.injEq] at he
  obtain ⟨⟨rfl, rfl, _⟩, _, rfl⟩ := he
  have p0 := hr k hk
  have hxz := World.block_lt_of_cell? _ _ p0
  simp only at hxz
  have b0 := hy k
  have hkI : (k : Int) < (l.length : Int) := by omega
  have h1b : (k : Int) + 1 < (l.length : Int) := by omega
  have p1 := hr (k + 1) h1
  have b1 := hy (k + 1)
  have e2 : (l.getD k 0 == 92) = true := by rw [h92]; rfl
  have e1 : (l.getD k 0 == 91) = false := by rw [h92]; rfl
  have e6 : (lg == 2) = true := by rw [hlg]; rfl
  have e7 : ((k : Int) + 1 == (l.length : Int)) = false := by simp; omega
  clear h92 hlg
  generalize l.getD (k + 1) 0 = c1 at *
  clear hr hy
  generalize l.getD k 0 = c at *
  go_enter Tryd.func24, Tryd.ntmps24
  go_wp2_with fail
  exact bodyPost_ret (by first | (simp [results, Tryd.results24, go_sem]; done) | (simp [results, Tryd.results24, go_sem]; rfl)) rfl ⟨rfl, (Below.refl _ _).alloc (Nat.le_refl _) _⟩

set_option maxRecDepth 100000 in
set_option maxHeartbeats 8000000 in
theorem ritem_escend (x o cap : Nat) (l : List Int) (k : Nat) (lg : Int) (w : World) (hs : Sl w (.slice (some ⟨x, o, none⟩) l.length cap) l) (hk : k < l.length) (h92 : l.getD k 0 = 92) (hlg : lg = 2) (h1 : ¬ k + 1 < l.length) :
    Calls Tryd.prog 24 #[.slice (some ⟨x, o, none⟩) l.length cap, .int .i64 k, .int .i64 lg] w fun e w' => e = .returned (.tuple #[.int .i64 0, .agg #[.int .u64 0, .int .u64 0, .int .u64 0, .int .u64 0], .int .i64 k, .int .i64 8, .int .i64 (l.length : Nat)]) ∧ Below w.heap.size w w' := by
  obtain ⟨hy, hl, ⟨rfl, _⟩ | ⟨x', o', cap', he, hcl, hcm, hr⟩⟩ := hs
  · simp at hk
  simp only [Value.slice.injEq, Option.some.injEq, Addr.mk.injEq] at he
  obtain ⟨⟨rfl, rfl, _⟩, _, rfl⟩ := he
  have p0 := hr k hk
  have hxz := World.block_lt_of_cell? _ _ p0
  simp only at hxz
  have b0 := hy k
  have hkI : (k : Int) < (l.length : Int) := by omega
  have e2 : (l.getD k 0 == 92) = true := by rw [h92]; rfl
  have e1 : (l.getD k 0 == 91) = false := by rw [h92]; rfl
  have e6 : (lg == 2) = true := by rw [hlg]; rfl
  have e7 : ((k : Int) + 1 == (l.length : Int)) = true := by simp; omega
  clear h92 hlg
  clear hr hy
  generalize l.getD k 0 = c at *
  go_enter Tryd.func24, Tryd.ntmps24
  go_wp2_with fail
  exact bodyPost_ret (by first | (simp [results, Tryd.results24, go_sem]; done) | (simp [results, Tryd.results24, go_sem]; rfl)) rfl ⟨rfl, (Below.refl _ _).alloc (Nat.le_refl _) _⟩

end Go.Proofs.YtoodpajbefffhaaDoor
