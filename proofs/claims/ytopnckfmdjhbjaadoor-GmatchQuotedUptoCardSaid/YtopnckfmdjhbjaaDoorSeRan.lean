/- Contracts of Range, Not, Has. -/
import Derived.Test.YtopnckfmdjhbjaaDoorSeWit
import Derived.Deep.QuietTactic
import Derived.WalkSmall
namespace Go.Proofs.YtopnckfmdjhbjaaDoor
open Go.RowKit

theorem SV_congr {p q : Nat → Bool} (h : ∀ c, c < 256 → p c = q c) : SV p = SV q := by
  have e : ∀ i, i < 4 → sw p i = sw q i := fun i hi => wd_congr fun j hj => h _ (by omega)
  unfold SV
  rw [e 0 (by omega), e 1 (by omega), e 2 (by omega), e 3 (by omega)]
theorem SV_inj {p q : Nat → Bool} (h : SV p = SV q) (c : Nat) (hc : c < 256) : p c = q c := by
  unfold SV at h
  simp only [Value.agg.injEq, Array.mk.injEq, List.cons.injEq, Value.int.injEq, true_and, and_true, Int.natCast_inj] at h
  obtain ⟨h0, h1, h2, h3⟩ := h
  have e : sw p (c / 64) = sw q (c / 64) := by
    rcases (by omega : c / 64 = 0 ∨ c / 64 = 1 ∨ c / 64 = 2 ∨ c / 64 = 3) with k | k | k | k <;> rw [k] <;> assumption
  have := wd_inj e (c % 64) (Nat.mod_lt _ (by decide))
  simp only [Nat.div_add_mod] at this
  exact this
theorem below_thn {B : Nat} {a b c : World} (h1 : Below B a b) (hB : B ≤ a.heap.size) (h2 : Below b.heap.size b c) : Below B a c := h1.trans (h2.mono (Nat.le_trans hB h1.size))
theorem below_undrew {B : Nat} {w w' : World} (h : Below B w.drew w') : Below B w w' := ((Below.refl B w).drew).trans h
/-- The block of the result, made first. -/
theorem res_facts {w w3 : World} {B : Nat} (hb : Below B (w.alloc (.cells #[.int .u64 0, .int .u64 0, .int .u64 0, .int .u64 0] 53)) w3) (hB : w.heap.size < B) :
    w3.cell? ⟨w.heap.size, 0, none⟩ = some (.int .u64 0) ∧ w3.cell? ⟨w.heap.size, 1, none⟩ = some (.int .u64 0) ∧ w3.cell? ⟨w.heap.size, 2, none⟩ = some (.int .u64 0) ∧ w3.cell? ⟨w.heap.size, 3, none⟩ = some (.int .u64 0) ∧
      w3.frozen? ⟨w.heap.size, 0, none⟩ = false ∧ w3.frozen? ⟨w.heap.size, 1, none⟩ = false ∧ w3.frozen? ⟨w.heap.size, 2, none⟩ = false ∧ w3.frozen? ⟨w.heap.size, 3, none⟩ = false ∧ w.heap.size < w3.heap.size := by
  have h := hb.block w.heap.size hB
  have e : (w.alloc (.cells #[.int .u64 0, .int .u64 0, .int .u64 0, .int .u64 0] 53)).heap[w.heap.size]? = some (.cells #[.int .u64 0, .int .u64 0, .int .u64 0, .int .u64 0] 53) := by
    show (w.heap.push _)[w.heap.size]? = _
    simp
  rw [e] at h
  have hs := hb.size
  refine ⟨by simp [World.cell?, h], by simp [World.cell?, h], by simp [World.cell?, h], by simp [World.cell?, h], by simp [World.frozen?, h], by simp [World.frozen?, h], by simp [World.frozen?, h], by simp [World.frozen?, h], ?_⟩
  rcases Nat.lt_or_ge w.heap.size w3.heap.size with h' | h'
  · exact h'
  · rw [Array.getElem?_eq_none h'] at h; cases h
theorem res_below {w w3 : World} {o : Obj} (hb : Below (w.heap.size + 1) (w.alloc o) w3) (x0 x1 x2 x3 : Value) :
    Below w.heap.size w ((((w3.setCell ⟨w.heap.size, 0, none⟩ x0).setCell ⟨w.heap.size, 1, none⟩ x1).setCell ⟨w.heap.size, 2, none⟩ x2).setCell ⟨w.heap.size, 3, none⟩ x3) := by
  have h : Below w.heap.size w w3 := ((Below.refl _ _).alloc (Nat.le_refl _) _).trans (hb.mono (Nat.le_succ _))
  exact (((h.setCell (Nat.le_refl _) _).setCell (Nat.le_refl _) _).setCell (Nat.le_refl _) _).setCell (Nat.le_refl _) _
/-- All from low to high. -/
def rng (low high : Nat) (c : Nat) : Bool := decide (low ≤ c) && decide (c ≤ high)

set_option maxHeartbeats 2000000 in
theorem range_any (low high : Nat) (hl : low < 256) (hh : high < 256) (w : World) :
    Calls Tryd.prog 97 #[.int .u8 low, .int .u8 high] w fun e w' => e = .returned (SV (rng low high)) ∧ Below w.heap.size w w' := by
  have HR : Hid (SV (fun c => decide (c < high + 1) && !decide (c < low)) = SV (rng low high)) := Lib.hid (SV_congr fun c _ => by
    unfold rng
    rw [Bool.eq_iff_iff]
    simp
    omega)
  have HB1 : ∀ w, Hid (Calls Tryd.prog 99 #[.int .i64 ((high : Int) + 1)] w fun e w' => e = .returned (SV fun c => decide (c < high + 1)) ∧ Below w.heap.size w w') := fun w => Lib.hid (below_any (high + 1) (by omega) w)
  have HB2 : ∀ w, Hid (Calls Tryd.prog 99 #[.int .i64 (low : Int)] w fun e w' => e = .returned (SV fun c => decide (c < low)) ∧ Below w.heap.size w w') := fun w => Lib.hid (below_any low (by omega) w)
  go_enter Tryd.func97, Tryd.ntmps97
  go_wp2_with fail
  refine (HB1 _).out.mono ?_
  rintro e w1 ⟨rfl, hb1⟩
  have HS1 := Lib.hid hb1
  clear hb1
  go_wp2_with fail
  refine (HB2 _).out.mono ?_
  rintro e w2 ⟨rfl, hb2⟩
  have HS2 := Lib.hid hb2
  clear hb2
  go_wp2_with fail
  refine (without_any _ _ _).mono ?_
  rintro e w3 ⟨rfl, hb3⟩
  have HS : Hid (Below (w.heap.size + 1) (w.alloc (.cells #[.int .u64 0, .int .u64 0, .int .u64 0, .int .u64 0] 53)) w3) :=
    Lib.hid (below_thn (below_thn (HS1.out.mono (by simp)) (by simp) HS2.out) (by simp) hb3)
  obtain ⟨c0, c1, c2, c3, f0, f1, f2, f3, hz⟩ := res_facts HS.out (Nat.lt_succ_self _)
  clear hb3
  rw [HR.out]
  unfold SV
  go_wp2
  exact bodyPost_ret (by simp [results, Tryd.results97, go_sem, c0, c1, c2, c3]; rfl) rfl ⟨rfl, res_below HS.out _ _ _ _⟩

/-- A box's cells, kept. -/
def NK (w : World) (x0 x1 x2 x3 : Value) (w' : World) : Prop :=
  Below w.heap.size w w' ∧ w'.cell? ⟨w.heap.size, 0, none⟩ = some x0 ∧ w'.cell? ⟨w.heap.size, 1, none⟩ = some x1 ∧ w'.cell? ⟨w.heap.size, 2, none⟩ = some x2 ∧ w'.cell? ⟨w.heap.size, 3, none⟩ = some x3 ∧ w.heap.size + 1 < w'.heap.size
theorem NK.next {w : World} {x0 x1 x2 x3 : Value} {w1 w2 : World} (h : NK w x0 x1 x2 x3 w1) (hb : Below w1.heap.size w1 w2) : NK w x0 x1 x2 x3 w2 := by
  obtain ⟨h0, h1, h2, h3, h4, h5⟩ := h
  exact ⟨below_thn h0 (Nat.le_refl _) hb, by rw [hb.cell (by simp; omega)]; exact h1, by rw [hb.cell (by simp; omega)]; exact h2, by rw [hb.cell (by simp; omega)]; exact h3, by rw [hb.cell (by simp; omega)]; exact h4, Nat.lt_of_lt_of_le h5 hb.size⟩
theorem NK.drew {w : World} {x0 x1 x2 x3 : Value} {w1 : World} (h : NK w x0 x1 x2 x3 w1) : NK w x0 x1 x2 x3 w1.drew := h.next (Below.refl _ _).drew
theorem NK.set {w : World} {x0 x1 x2 x3 : Value} {w1 : World} (h : NK w x0 x1 x2 x3 w1) (i : Nat) (y : Value) : NK w x0 x1 x2 x3 (w1.setCell ⟨w.heap.size + 1, i, none⟩ y) := by
  obtain ⟨h0, h1, h2, h3, h4, h5⟩ := h
  have k : ∀ j, (w1.setCell ⟨w.heap.size + 1, i, none⟩ y).cell? ⟨w.heap.size, j, none⟩ = w1.cell? ⟨w.heap.size, j, none⟩ := fun j => World.cell?_setCell_other _ _ _ _ (by simp)
  exact ⟨h0.setCell (by simp) _, by rw [k]; exact h1, by rw [k]; exact h2, by rw [k]; exact h3, by rw [k]; exact h4, by simpa using h5⟩
theorem NK.start (w : World) (x0 x1 x2 x3 : Value) : NK w x0 x1 x2 x3 ((w.alloc (.cells #[x0, x1, x2, x3] 53)).alloc (.cells #[.int .u64 0, .int .u64 0, .int .u64 0, .int .u64 0] 53)) :=
  ⟨((Below.refl _ _).alloc (Nat.le_refl _) _).alloc (by simp) _, by simp, by simp, by simp, by simp, by simp⟩
set_option maxHeartbeats 2000000 in
theorem not_any (p : Nat → Bool) (w : World) :
    Calls Tryd.prog 81 #[SV p] w fun e w' => e = .returned (SV fun c => !p c) ∧ Below w.heap.size w w' := by
  have HR : Hid (SV (fun c => decide (c < 256) && !p c) = SV (fun c => !p c)) := Lib.hid (SV_congr fun c hc => by simp [hc])
  have HB : ∀ w, Hid (Calls Tryd.prog 99 #[.int .i64 256] w fun e w' => e = .returned (SV fun c => decide (c < 256)) ∧ Below w.heap.size w w') := fun w => Lib.hid (below_any 256 (by omega) w)
  have HW : ∀ w, Hid (Calls Tryd.prog 98 #[SV (fun c => decide (c < 256)), .agg #[.int .u64 (sw p 0 : Nat), .int .u64 (sw p 1 : Nat), .int .u64 (sw p 2 : Nat), .int .u64 (sw p 3 : Nat)]] w fun e w' => e = .returned (SV fun c => decide (c < 256) && !p c) ∧ Below w.heap.size w w') := fun w => Lib.hid (without_any _ _ w)
  have e1 : SV p = .agg #[.int .u64 (sw p 0 : Nat), .int .u64 (sw p 1 : Nat), .int .u64 (sw p 2 : Nat), .int .u64 (sw p 3 : Nat)] := rfl
  rw [e1]
  clear e1
  go_enter Tryd.func81, Tryd.ntmps81
  go_wp2
  have HK : Hid (NK w (.int .u64 (sw p 0 : Nat)) (.int .u64 (sw p 1 : Nat)) (.int .u64 (sw p 2 : Nat)) (.int .u64 (sw p 3 : Nat)) ((w.alloc (.cells #[.int .u64 (sw p 0 : Nat), .int .u64 (sw p 1 : Nat), .int .u64 (sw p 2 : Nat), .int .u64 (sw p 3 : Nat)] 53)).alloc (.cells #[.int .u64 0, .int .u64 0, .int .u64 0, .int .u64 0] 53))) :=
    Lib.hid (NK.start _ _ _ _ _)
  go_region_held3 (fun w' => Below w.heap.size w w' ∧ w'.cell? ⟨w.heap.size, 0, none⟩ = some (.int .u64 (sw p 0 : Nat)) ∧ w'.cell? ⟨w.heap.size, 1, none⟩ = some (.int .u64 (sw p 1 : Nat)) ∧ w'.cell? ⟨w.heap.size, 2, none⟩ = some (.int .u64 (sw p 2 : Nat)) ∧ w'.cell? ⟨w.heap.size, 3, none⟩ = some (.int .u64 (sw p 3 : Nat)) ∧ w.heap.size + 1 < w'.heap.size) (first | exact HK.out.drew | exact NK.next (by assumption) (by assumption) | exact NK.set (NK.set (NK.set (NK.set (by assumption) _ _) _ _) _ _) _ _)
    (first
      | (go_at_call 99; refine (HB _).out.mono ?_; rintro e w1 ⟨rfl, hb1⟩)
      | (go_at_call 98; refine (HW _).out.mono ?_; rintro e w2 ⟨rfl, hb2⟩; rw [HR.out]; unfold SV; obtain ⟨c0, c1, c2, c3, f0, f1, f2, f3, hz⟩ := res_facts (B := w.heap.size + 1 + 1) (below_thn (below_undrew (Below.mono hb1 (by simp))) (by simp) hb2) (by simp); simp only [World.size_alloc] at c0 c1 c2 c3 f0 f1 f2 f3 hz))
  all_goals
    go_wp2
    exact bodyPost_ret (by simp [results, Tryd.results81, go_sem, c0, c1, c2, c3]; rfl) rfl ⟨rfl, And.left (by assumption)⟩
end Go.Proofs.YtopnckfmdjhbjaaDoor
