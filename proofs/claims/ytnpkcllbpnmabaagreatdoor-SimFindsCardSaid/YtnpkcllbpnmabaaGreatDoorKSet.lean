import Derived.Test.YtnpkcllbpnmabaaGreatDoorSeWit
import Derived.Deep.QuietTactic
import Derived.WalkSmall
namespace Go.Proofs.YtnpkcllbpnmabaaGreatDoor
set_option maxRecDepth 100000
open Go.RowKit
theorem SV_congr {p q : Nat → Bool} (h : ∀ c, c < 256 → p c = q c) : SV p = SV q := by
 have e : ∀ i, i < 4 → sw p i = sw q i := fun i hi => wd_congr fun j hj => h _ (by omega)
 unfold SV
 rw [e 0 (by omega), e 1 (by omega), e 2 (by omega), e 3 (by omega)]
theorem below_thn {B : Nat} {a b c : World} (h1 : Below B a b) (hB : B ≤ a.heap.size) (h2 : Below b.heap.size b c) : Below B a c := h1.trans (h2.mono (Nat.le_trans hB h1.size))
theorem below_undrew {B : Nat} {w w' : World} (h : Below B w.drew w') : Below B w w' := ((Below.refl B w).drew).trans h
theorem res_facts {w w3 : World} {B : Nat} (hb : Below B (w.alloc (.cells #[.int .u64 0, .int .u64 0, .int .u64 0, .int .u64 0] 54)) w3) (hB : w.heap.size < B) :
  w3.cell? ⟨w.heap.size, 0, none⟩ = some (.int .u64 0) ∧ w3.cell? ⟨w.heap.size, 1, none⟩ = some (.int .u64 0) ∧ w3.cell? ⟨w.heap.size, 2, none⟩ = some (.int .u64 0) ∧ w3.cell? ⟨w.heap.size, 3, none⟩ = some (.int .u64 0) ∧
   w3.frozen? ⟨w.heap.size, 0, none⟩ = false ∧ w3.frozen? ⟨w.heap.size, 1, none⟩ = false ∧ w3.frozen? ⟨w.heap.size, 2, none⟩ = false ∧ w3.frozen? ⟨w.heap.size, 3, none⟩ = false ∧ w.heap.size < w3.heap.size := by
 have h := hb.block w.heap.size hB
 have e : (w.alloc (.cells #[.int .u64 0, .int .u64 0, .int .u64 0, .int .u64 0] 54)).heap[w.heap.size]? = some (.cells #[.int .u64 0, .int .u64 0, .int .u64 0, .int .u64 0] 54) := by
  show (w.heap.push _)[w.heap.size]? = _
  simp
 rw [e] at h
 have hs := hb.size
 refine ⟨by simp [World.cell?, h], by simp [World.cell?, h], by simp [World.cell?, h], by simp [World.cell?, h], by simp [World.frozen?, h], by simp [World.frozen?, h], by simp [World.frozen?, h], by simp [World.frozen?, h], ?_⟩
 rcases Nat.lt_or_ge w.heap.size w3.heap.size with h' | h'
 ·exact h'
 ·rw [Array.getElem?_eq_none h'] at h; cases h
theorem res_below {w w3 : World} {o : Obj} (hb : Below (w.heap.size + 1) (w.alloc o) w3) (x0 x1 x2 x3 : Value) :
  Below w.heap.size w ((((w3.setCell ⟨w.heap.size, 0, none⟩ x0).setCell ⟨w.heap.size, 1, none⟩ x1).setCell ⟨w.heap.size, 2, none⟩ x2).setCell ⟨w.heap.size, 3, none⟩ x3) := by
 have h : Below w.heap.size w w3 := ((Below.refl _ _).alloc (Nat.le_refl _) _).trans (hb.mono (Nat.le_succ _))
 exact (((h.setCell (Nat.le_refl _) _).setCell (Nat.le_refl _) _).setCell (Nat.le_refl _) _).setCell (Nat.le_refl _) _
def rng (low high : Nat) (c : Nat) : Bool := decide (low ≤ c) && decide (c ≤ high)
set_option maxHeartbeats 2000000 in
theorem range_any (low high : Nat) (hl : low < 256) (hh : high < 256) (w : World) :
  Calls Tryz.prog 105 #[.int .u8 low, .int .u8 high] w fun e w' => e = .returned (SV (rng low high)) ∧ Below w.heap.size w w' := by
 have HR : Hid (SV (fun c => decide (c < high + 1) && !decide (c < low)) = SV (rng low high)) := Lib.hid (SV_congr fun c _ => by
  unfold rng
  rw [Bool.eq_iff_iff]
  simp
  omega)
 have HB1 : ∀ w, Hid (Calls Tryz.prog 86 #[.int .i64 ((high : Int) + 1)] w fun e w' => e = .returned (SV fun c => decide (c < high + 1)) ∧ Below w.heap.size w w') := fun w => Lib.hid (below_any (high + 1) (by omega) w)
 have HB2 : ∀ w, Hid (Calls Tryz.prog 86 #[.int .i64 (low : Int)] w fun e w' => e = .returned (SV fun c => decide (c < low)) ∧ Below w.heap.size w w') := fun w => Lib.hid (below_any low (by omega) w)
 go_enter Tryz.func105, Tryz.ntmps105
 go_wp2_with fail
 refine (HB1 _).out.mono ?_
 rintro e w1 ⟨rfl, hb1⟩
 have HS1 := Lib.hid hb1
 clear hb1
 go_wp2_with fail
 refine (HB2 _).out.mono ?_
 rintro e w2 ⟨rfl, hb2⟩
 have HS2 := Lib.hid hb2
 clear hb2
 go_wp2_with fail
 refine (without_any _ _ _).mono ?_
 rintro e w3 ⟨rfl, hb3⟩
 have HS : Hid (Below (w.heap.size + 1) (w.alloc (.cells #[.int .u64 0, .int .u64 0, .int .u64 0, .int .u64 0] 54)) w3) :=
  Lib.hid (below_thn (below_thn (HS1.out.mono (by simp)) (by simp) HS2.out) (by simp) hb3)
 obtain ⟨c0, c1, c2, c3, f0, f1, f2, f3, hz⟩ := res_facts HS.out (Nat.lt_succ_self _)
 clear hb3
 rw [HR.out]
 unfold SV
 go_wp2
 exact bodyPost_ret (by simp [results, Tryz.results105, go_sem, c0, c1, c2, c3]; rfl) rfl ⟨rfl, res_below HS.out _ _ _ _⟩
def NK (w : World) (x0 x1 x2 x3 : Value) (w' : World) : Prop :=
 Below w.heap.size w w' ∧ w'.cell? ⟨w.heap.size, 0, none⟩ = some x0 ∧ w'.cell? ⟨w.heap.size, 1, none⟩ = some x1 ∧ w'.cell? ⟨w.heap.size, 2, none⟩ = some x2 ∧ w'.cell? ⟨w.heap.size, 3, none⟩ = some x3 ∧ w.heap.size + 1 < w'.heap.size
theorem NK.next {w : World} {x0 x1 x2 x3 : Value} {w1 w2 : World} (h : NK w x0 x1 x2 x3 w1) (hb : Below w1.heap.size w1 w2) : NK w x0 x1 x2 x3 w2 := by
 obtain ⟨h0, h1, h2, h3, h4, h5⟩ := h
 exact ⟨below_thn h0 (Nat.le_refl _) hb, by rw [hb.cell (by simp; omega)]; exact h1, by rw [hb.cell (by simp; omega)]; exact h2, by rw [hb.cell (by simp; omega)]; exact h3, by rw [hb.cell (by simp; omega)]; exact h4, Nat.lt_of_lt_of_le h5 hb.size⟩
theorem NK.drew {w : World} {x0 x1 x2 x3 : Value} {w1 : World} (h : NK w x0 x1 x2 x3 w1) : NK w x0 x1 x2 x3 w1.drew := h.next (Below.refl _ _).drew
theorem NK.set {w : World} {x0 x1 x2 x3 : Value} {w1 : World} (h : NK w x0 x1 x2 x3 w1) (i : Nat) (y : Value) : NK w x0 x1 x2 x3 (w1.setCell ⟨w.heap.size + 1, i, none⟩ y) := by
 obtain ⟨h0, h1, h2, h3, h4, h5⟩ := h
 have k : ∀ j, (w1.setCell ⟨w.heap.size + 1, i, none⟩ y).cell? ⟨w.heap.size, j, none⟩ = w1.cell? ⟨w.heap.size, j, none⟩ := fun j => World.cell?_setCell_other _ _ _ _ (by simp)
 exact ⟨h0.setCell (by simp) _, by rw [k]; exact h1, by rw [k]; exact h2, by rw [k]; exact h3, by rw [k]; exact h4, by simpa using h5⟩
theorem NK.start (w : World) (x0 x1 x2 x3 : Value) : NK w x0 x1 x2 x3 ((w.alloc (.cells #[x0, x1, x2, x3] 54)).alloc (.cells #[.int .u64 0, .int .u64 0, .int .u64 0, .int .u64 0] 54)) :=
 ⟨((Below.refl _ _).alloc (Nat.le_refl _) _).alloc (by simp) _, by simp, by simp, by simp, by simp, by simp⟩
set_option maxHeartbeats 2000000 in
theorem not_any (p : Nat → Bool) (w : World) :
  Calls Tryz.prog 74 #[SV p] w fun e w' => e = .returned (SV fun c => !p c) ∧ Below w.heap.size w w' := by
 have HR : Hid (SV (fun c => decide (c < 256) && !p c) = SV (fun c => !p c)) := Lib.hid (SV_congr fun c hc => by simp [hc])
 have HB : ∀ w, Hid (Calls Tryz.prog 86 #[.int .i64 256] w fun e w' => e = .returned (SV fun c => decide (c < 256)) ∧ Below w.heap.size w w') := fun w => Lib.hid (below_any 256 (by omega) w)
 have HW : ∀ w, Hid (Calls Tryz.prog 85 #[SV (fun c => decide (c < 256)), .agg #[.int .u64 (sw p 0 : Nat), .int .u64 (sw p 1 : Nat), .int .u64 (sw p 2 : Nat), .int .u64 (sw p 3 : Nat)]] w fun e w' => e = .returned (SV fun c => decide (c < 256) && !p c) ∧ Below w.heap.size w w') := fun w => Lib.hid (without_any _ _ w)
 have e1 : SV p = .agg #[.int .u64 (sw p 0 : Nat), .int .u64 (sw p 1 : Nat), .int .u64 (sw p 2 : Nat), .int .u64 (sw p 3 : Nat)] := rfl
 rw [e1]
 clear e1
 go_enter Tryz.func74, Tryz.ntmps74
 go_wp2
 have HK : Hid (NK w (.int .u64 (sw p 0 : Nat)) (.int .u64 (sw p 1 : Nat)) (.int .u64 (sw p 2 : Nat)) (.int .u64 (sw p 3 : Nat)) ((w.alloc (.cells #[.int .u64 (sw p 0 : Nat), .int .u64 (sw p 1 : Nat), .int .u64 (sw p 2 : Nat), .int .u64 (sw p 3 : Nat)] 54)).alloc (.cells #[.int .u64 0, .int .u64 0, .int .u64 0, .int .u64 0] 54))) :=
  Lib.hid (NK.start _ _ _ _ _)
 go_region_held3 (fun w' => Below w.heap.size w w' ∧ w'.cell? ⟨w.heap.size, 0, none⟩ = some (.int .u64 (sw p 0 : Nat)) ∧ w'.cell? ⟨w.heap.size, 1, none⟩ = some (.int .u64 (sw p 1 : Nat)) ∧ w'.cell? ⟨w.heap.size, 2, none⟩ = some (.int .u64 (sw p 2 : Nat)) ∧ w'.cell? ⟨w.heap.size, 3, none⟩ = some (.int .u64 (sw p 3 : Nat)) ∧ w.heap.size + 1 < w'.heap.size) (first | exact HK.out.drew | exact NK.next (by assumption) (by assumption) | exact NK.set (NK.set (NK.set (NK.set (by assumption) _ _) _ _) _ _) _ _)
  (first
   | (go_at_call 86; refine (HB _).out.mono ?_; rintro e w1 ⟨rfl, hb1⟩)
   | (go_at_call 85; refine (HW _).out.mono ?_; rintro e w2 ⟨rfl, hb2⟩; rw [HR.out]; unfold SV; obtain ⟨c0, c1, c2, c3, f0, f1, f2, f3, hz⟩ := res_facts (B := w.heap.size + 1 + 1) (below_thn (below_undrew (Below.mono hb1 (by simp))) (by simp) hb2) (by simp); simp only [World.size_alloc] at c0 c1 c2 c3 f0 f1 f2 f3 hz))
 all_goals
  go_wp2
  exact bodyPost_ret (by simp [results, Tryz.results74, go_sem, c0, c1, c2, c3]; rfl) rfl ⟨rfl, And.left (by assumption)⟩
theorem sw_bit (p : Nat → Bool) (i j : Nat) (hj : j < 64) : bits .and .u64 ((sw p i : Int) / 2 ^ j) 1 = ((p (64 * i + j)).toNat : Nat) := by
 have h := wd_bit (fun j => p (64 * i + j)) j hj
 have e : ((sw p i : Int) / 2 ^ j) = ((sw p i / 2 ^ j : Nat) : Int) := by simp
 have hlt : sw p i / 2 ^ j < 18446744073709551616 := Nat.lt_of_le_of_lt (Nat.div_le_self _ _) (wd_lt _)
 have h1 := u64_and_nat (sw p i / 2 ^ j) 1 hlt (by decide)
 rw [e, show (1 : Int) = ((1 : Nat) : Int) from rfl, h1]
 refine congrArg (Nat.cast (R := Int)) ?_
 rw [show (1 : Nat) = 2 ^ 1 - 1 from rfl, Nat.and_two_pow_sub_one_eq_mod]
 exact h
set_option maxHeartbeats 2000000 in
theorem has_any (p : Nat → Bool) (b : Nat) (hb : b < 256) (w : World) :
  Calls Tryz.prog 67 #[SV p, .int .u8 b] w fun e w' => e = .returned (.bool (p b)) ∧ Below w.heap.size w w' := by
 obtain ⟨j, hj, h⟩ : ∃ j, j < 64 ∧ (b = j ∨ b = 64 + j ∨ b = 128 + j ∨ b = 192 + j) := ⟨b % 64, by omega, by omega⟩
 have e : ∀ i, b = 64 * i + j → bits .and .u64 ((sw p i : Int) / 2 ^ j) 1 = ((p b).toNat : Nat) := fun i hi => by rw [hi]; exact sw_bit p i j hj
 unfold SV
 rcases h with h | h | h | h
 ·have hs := e 0 (by omega)
  have hq : (b : Int) / 64 = 0 := by omega
  have hr : (b : Int) % 64 = j := by omega
  clear e h
  cases hp : p b
  all_goals
   rw [hp] at hs
   simp only [Bool.toNat_true, Bool.toNat_false] at hs
   clear hp
   generalize sw p 0 = x0 at *
   generalize sw p 1 = x1 at *
   generalize sw p 2 = x2 at *
   generalize sw p 3 = x3 at *
   go_enter Tryz.func67, Tryz.ntmps67
   go_wp2
   go_ret
   exact ⟨rfl, (Below.refl _ _).alloc (Nat.le_refl _) _⟩
 ·have hs := e 1 (by omega)
  have hq : (b : Int) / 64 = 1 := by omega
  have hr : (b : Int) % 64 = j := by omega
  clear e h
  cases hp : p b
  all_goals
   rw [hp] at hs
   simp only [Bool.toNat_true, Bool.toNat_false] at hs
   clear hp
   generalize sw p 0 = x0 at *
   generalize sw p 1 = x1 at *
   generalize sw p 2 = x2 at *
   generalize sw p 3 = x3 at *
   go_enter Tryz.func67, Tryz.ntmps67
   go_wp2
   go_ret
   exact ⟨rfl, (Below.refl _ _).alloc (Nat.le_refl _) _⟩
 ·have hs := e 2 (by omega)
  have hq : (b : Int) / 64 = 2 := by omega
  have hr : (b : Int) % 64 = j := by omega
  clear e h
  cases hp : p b
  all_goals
   rw [hp] at hs
   simp only [Bool.toNat_true, Bool.toNat_false] at hs
   clear hp
   generalize sw p 0 = x0 at *
   generalize sw p 1 = x1 at *
   generalize sw p 2 = x2 at *
   generalize sw p 3 = x3 at *
   go_enter Tryz.func67, Tryz.ntmps67
   go_wp2
   go_ret
   exact ⟨rfl, (Below.refl _ _).alloc (Nat.le_refl _) _⟩
 ·have hs := e 3 (by omega)
  have hq : (b : Int) / 64 = 3 := by omega
  have hr : (b : Int) % 64 = j := by omega
  clear e h
  cases hp : p b
  all_goals
   rw [hp] at hs
   simp only [Bool.toNat_true, Bool.toNat_false] at hs
   clear hp
   generalize sw p 0 = x0 at *
   generalize sw p 1 = x1 at *
   generalize sw p 2 = x2 at *
   generalize sw p 3 = x3 at *
   go_enter Tryz.func67, Tryz.ntmps67
   go_wp2
   go_ret
   exact ⟨rfl, (Below.refl _ _).alloc (Nat.le_refl _) _⟩
theorem arr_idx0 (a b c d : Value) (w : World) : (Instr.index 54 (.agg #[a, b, c, d]) (.int .i64 0)).run Tryz.prog w = .ok a w := by kernel_rfl
theorem arr_idx1 (a b c d : Value) (w : World) : (Instr.index 54 (.agg #[a, b, c, d]) (.int .i64 1)).run Tryz.prog w = .ok b w := by kernel_rfl
theorem arr_idx2 (a b c d : Value) (w : World) : (Instr.index 54 (.agg #[a, b, c, d]) (.int .i64 2)).run Tryz.prog w = .ok c w := by kernel_rfl
theorem arr_idx3 (a b c d : Value) (w : World) : (Instr.index 54 (.agg #[a, b, c, d]) (.int .i64 3)).run Tryz.prog w = .ok d w := by kernel_rfl
theorem sw_or (p q : Nat → Bool) (i : Nat) : bits .or .u64 (sw p i : Int) (sw q i : Int) = (sw (fun c => p c || q c) i : Nat) := wd_or _ _
theorem sw_zero (i : Nat) : ((sw (fun _ => false) i : Nat) : Int) = 0 := by
 have : sw (fun _ => false) i = 0 := (show (0 : Nat) = wd fun _ => false from wd_zero).symm
 rw [this]; rfl
def Row4 (w : World) (b o : Nat) (p : Nat → Bool) : Prop :=
 w.cell? ⟨b, o, none⟩ = some (.int .u64 (sw p 0 : Nat)) ∧ w.cell? ⟨b, o + 1, none⟩ = some (.int .u64 (sw p 1 : Nat)) ∧ w.cell? ⟨b, o + 2, none⟩ = some (.int .u64 (sw p 2 : Nat)) ∧ w.cell? ⟨b, o + 3, none⟩ = some (.int .u64 (sw p 3 : Nat))
set_option maxHeartbeats 16000000 in
theorem union2_any (p0 p1 : Nat → Bool) (b cap : Nat) (w : World) (h0 : Row4 w b 0 p0) (h1 : Row4 w b 4 p1) (hb : b < w.heap.size) :
  Calls Tryz.prog 98 #[.slice (some ⟨b, 0, none⟩) 2 cap] w fun e w' => e = .returned (SV fun c => p0 c || p1 c) ∧ Below w.heap.size w w' := by
 obtain ⟨c00, c01', c02', c03'⟩ := h0
 have c01 : w.cell? ⟨b, 1, none⟩ = some (.int .u64 (sw p0 1 : Nat)) := c01'
 have c02 : w.cell? ⟨b, 2, none⟩ = some (.int .u64 (sw p0 2 : Nat)) := c02'
 have c03 : w.cell? ⟨b, 3, none⟩ = some (.int .u64 (sw p0 3 : Nat)) := c03'
 clear c01' c02' c03'
 obtain ⟨c10, c11', c12', c13'⟩ := h1
 have c11 : w.cell? ⟨b, 5, none⟩ = some (.int .u64 (sw p1 1 : Nat)) := c11'
 have c12 : w.cell? ⟨b, 6, none⟩ = some (.int .u64 (sw p1 2 : Nat)) := c12'
 have c13 : w.cell? ⟨b, 7, none⟩ = some (.int .u64 (sw p1 3 : Nat)) := c13'
 clear c11' c12' c13'
 have nb0 : b ≠ w.heap.size := by omega
 have hb1 : b < w.heap.size + 1 := by omega
 have nb1 : b ≠ w.heap.size + 1 := by omega
 have hb2 : b < w.heap.size + 1 + 1 := by omega
 have nb2 : b ≠ w.heap.size + 1 + 1 := by omega
 have z0 : bits .or .u64 0 (sw p0 0 : Int) = (sw p0 0 : Nat) := by rw [← sw_zero 0, sw_or]; simp
 have e10 := sw_or p0 p1 0
 have z1 : bits .or .u64 0 (sw p0 1 : Int) = (sw p0 1 : Nat) := by rw [← sw_zero 1, sw_or]; simp
 have e11 := sw_or p0 p1 1
 have z2 : bits .or .u64 0 (sw p0 2 : Int) = (sw p0 2 : Nat) := by rw [← sw_zero 2, sw_or]; simp
 have e12 := sw_or p0 p1 2
 have z3 : bits .or .u64 0 (sw p0 3 : Int) = (sw p0 3 : Nat) := by rw [← sw_zero 3, sw_or]; simp
 have e13 := sw_or p0 p1 3
 unfold SV
 have i00 := arr_idx0 (.int .u64 (sw p0 0 : Nat)) (.int .u64 (sw p0 1 : Nat)) (.int .u64 (sw p0 2 : Nat)) (.int .u64 (sw p0 3 : Nat))
 have i01 := arr_idx1 (.int .u64 (sw p0 0 : Nat)) (.int .u64 (sw p0 1 : Nat)) (.int .u64 (sw p0 2 : Nat)) (.int .u64 (sw p0 3 : Nat))
 have i02 := arr_idx2 (.int .u64 (sw p0 0 : Nat)) (.int .u64 (sw p0 1 : Nat)) (.int .u64 (sw p0 2 : Nat)) (.int .u64 (sw p0 3 : Nat))
 have i03 := arr_idx3 (.int .u64 (sw p0 0 : Nat)) (.int .u64 (sw p0 1 : Nat)) (.int .u64 (sw p0 2 : Nat)) (.int .u64 (sw p0 3 : Nat))
 have i10 := arr_idx0 (.int .u64 (sw p1 0 : Nat)) (.int .u64 (sw p1 1 : Nat)) (.int .u64 (sw p1 2 : Nat)) (.int .u64 (sw p1 3 : Nat))
 have i11 := arr_idx1 (.int .u64 (sw p1 0 : Nat)) (.int .u64 (sw p1 1 : Nat)) (.int .u64 (sw p1 2 : Nat)) (.int .u64 (sw p1 3 : Nat))
 have i12 := arr_idx2 (.int .u64 (sw p1 0 : Nat)) (.int .u64 (sw p1 1 : Nat)) (.int .u64 (sw p1 2 : Nat)) (.int .u64 (sw p1 3 : Nat))
 have i13 := arr_idx3 (.int .u64 (sw p1 0 : Nat)) (.int .u64 (sw p1 1 : Nat)) (.int .u64 (sw p1 2 : Nat)) (.int .u64 (sw p1 3 : Nat))
 go_enter Tryz.func98, Tryz.ntmps98
 go_wp2
 refine wp_loop_rounds 3 ?_
 iterate 2 (rw [rounds_succ]; go_wp2; refine wp_loop_rounds 5 ?_; iterate 5 (rw [rounds_succ]; go_wp2))
 rw [rounds_succ]
 go_wp2
 exact bodyPost_ret (by simp [results, Tryz.results98, go_sem]) rfl ⟨rfl, ((((Below.refl _ _).alloc (Nat.le_refl _) _).alloc (by simp) _).alloc (by simp; omega) _).alloc (by simp; omega) _⟩
def mem (l : List Int) (c : Nat) : Bool := decide ((c : Int) ∈ l)
def plus (p : Nat → Bool) (b : Nat) (c : Nat) : Bool := p c || c == b
theorem sw_plus (p : Nat → Bool) (i j : Nat) (hj : j < 64) : bits .or .u64 (sw p i : Int) ((2 : Int) ^ j) = (sw (plus p (64 * i + j)) i : Nat) := by
 have h := wd_or (fun c => p (64 * i + c)) (fun c => c == j)
 rw [← wd_one j hj] at h
 have e : ((2 : Int) ^ j) = ((2 ^ j : Nat) : Int) := by simp
 rw [e]
 refine h.trans (congrArg (Nat.cast (R := Int)) (wd_congr fun c _ => ?_))
 unfold plus
 congr 1
 rw [Bool.eq_iff_iff]
 simp
theorem sw_plus_other (p : Nat → Bool) (b i : Nat) (h : b / 64 ≠ i) : sw (plus p b) i = sw p i :=
 wd_congr fun j hj => by
  unfold plus
  have : ((64 * i + j) == b) = false := by simp; omega
  rw [this, Bool.or_false]
theorem pow_wrap (j : Nat) (hj : j < 64) : IntKind.u64.wrap ((2 : Int) ^ j) = (2 : Int) ^ j := by
 have h : 2 ^ j < 2 ^ 64 := Nat.pow_lt_pow_right (by decide) hj
 have e : ((2 : Int) ^ j) = ((2 ^ j : Nat) : Int) := by simp
 rw [e, IntKind.wrap_u64]
 generalize 2 ^ j = y at *
 omega
theorem row4_plus {w : World} {b : Nat} {p : Nat → Bool} (h : Row4 w b 0 p) (i j : Nat) (hj : j < 64) (hi : i < 4) :
  Row4 (w.setCell ⟨b, i, none⟩ (.int .u64 (sw (plus p (64 * i + j)) i : Nat))) b 0 (plus p (64 * i + j)) := by
 obtain ⟨h0, h1, h2, h3⟩ := h
 have o : ∀ k, k ≠ i → sw (plus p (64 * i + j)) k = sw p k := fun k hk => sw_plus_other p _ k (by omega)
 have g : ∀ k v, k < 4 → w.cell? ⟨b, k, none⟩ = some v → v = .int .u64 (sw p k : Nat) → (w.setCell ⟨b, i, none⟩ (.int .u64 (sw (plus p (64 * i + j)) i : Nat))).cell? ⟨b, k, none⟩ = some (.int .u64 (sw (plus p (64 * i + j)) k : Nat)) := by
  intro k v _ hc hv
  by_cases e : k = i
  ·subst e
   exact World.cell?_setCell_same w _ _ hc
  ·rw [World.cell?_setCell_other _ _ _ _ (by simp), hc, hv, o k e]
 exact ⟨g 0 _ (by omega) h0 rfl, g 1 _ (by omega) h1 rfl, g 2 _ (by omega) h2 rfl, g 3 _ (by omega) h3 rfl⟩
theorem mem_snoc (s : ByteArray) (k : Nat) (h : k < s.size) : mem ((bys s).take (k + 1)) = plus (mem ((bys s).take k)) s[k].toNat := by
 funext c
 have e : (bys s).take (k + 1) = (bys s).take k ++ [(s[k].toNat : Int)] := by
  rw [List.take_succ_eq_append_getElem (by rw [bys_length]; exact h)]
  congr 2
  have := bys_getD s k h
  rwa [List.getD_eq_getElem?_getD, List.getElem?_eq_getElem (by rw [bys_length]; exact h), Option.getD_some] at this
 unfold mem plus
 rw [e, Bool.eq_iff_iff]
 simp [Int.natCast_inj]
set_option maxHeartbeats 16000000 in
theorem of_any (s : ByteArray) (w : World) (hs : s.size ≤ 9223372036854775807) :
  Calls Tryz.prog 73 #[.string s] w fun e w' => e = .returned (SV (mem (bys s))) ∧ Below w.heap.size w w' := by
 have HS0 : Hid (Row4 ((w.alloc (.cells #[.int .u64 0, .int .u64 0, .int .u64 0, .int .u64 0] 54)).alloc (.cells #[.int .u64 0, .int .u64 0, .int .u64 0, .int .u64 0] 54)) (w.heap.size + 1) 0 (mem ((bys s).take 0))) := by
  have e : mem ((bys s).take 0) = fun _ => false := by funext c; simp [mem]
  have hz : (w.alloc (.cells #[.int .u64 0, .int .u64 0, .int .u64 0, .int .u64 0] 54)).heap.size = w.heap.size + 1 := by simp
  rw [e, ← hz]
  refine ⟨?_, ?_, ?_, ?_⟩ <;> rw [sw_zero] <;> simp
 have HF0 : Hid (∀ j, ((w.alloc (.cells #[.int .u64 0, .int .u64 0, .int .u64 0, .int .u64 0] 54)).alloc (.cells #[.int .u64 0, .int .u64 0, .int .u64 0, .int .u64 0] 54)).frozen? ⟨w.heap.size + 1, j, none⟩ = false) := by
  have hz : (w.alloc (.cells #[.int .u64 0, .int .u64 0, .int .u64 0, .int .u64 0] 54)).heap.size = w.heap.size + 1 := by simp
  rw [← hz]
  exact Lib.hid fun j => by simp
 go_enter Tryz.func73, Tryz.ntmps73
 go_wp2
 go_loopw [4, 7] (fun _ i wr => ∃ k : Nat, k ≤ s.size ∧ i = .int .i64 k ∧ Row4 wr (w.heap.size + 1) 0 (mem ((bys s).take k)) ∧ Below (w.heap.size + 1) (w.alloc (.cells #[.int .u64 0, .int .u64 0, .int .u64 0, .int .u64 0] 54)) wr ∧ w.heap.size + 1 < wr.heap.size ∧ (∀ j, wr.frozen? ⟨w.heap.size + 1, j, none⟩ = false)) (fun _ i _ => s.size - (intOf i).toNat)
 case atStart => exact ⟨0, Nat.zero_le _, rfl, HS0.out, (Below.refl _ _).alloc (by simp) _, by simp, HF0.out⟩
 case round =>
  obtain ⟨k, hk, rfl, hrow, hbel, hz, hfz⟩ := hrel
  have HR := Lib.hid hrow
  have HF := Lib.hid hfz
  have HB := Lib.hid hbel
  have f0 := hfz 0
  have f1 := hfz 1
  have f2 := hfz 2
  have f3 := hfz 3
  obtain ⟨r0, r1, r2, r3⟩ := hrow
  clear hfz hbel
  by_cases hlt : k < s.size
  ·have HM : Hid (mem ((bys s).take (k + 1)) = plus (mem ((bys s).take k)) s[k].toNat) := Lib.hid (mem_snoc s k hlt)
   have hb256 : s[k].toNat < 256 := UInt8.toNat_lt _
   obtain ⟨j, hj, h⟩ : ∃ j, j < 64 ∧ (s[k].toNat = 64 * 0 + j ∨ s[k].toNat = 64 * 1 + j ∨ s[k].toNat = 64 * 2 + j ∨ s[k].toNat = 64 * 3 + j) := ⟨s[k].toNat % 64, by omega, by omega⟩
   have hpw := pow_wrap j hj
   rcases h with h | h | h | h
   ·have hq : ((s[k].toNat : Nat) : Int) / 64 = 0 := by omega
    have hr : ((s[k].toNat : Nat) : Int) % 64 = j := by omega
    have hw : bits .or .u64 (sw (mem ((bys s).take k)) 0 : Int) ((2 : Int) ^ j) = (sw (plus (mem ((bys s).take k)) (j)) 0 : Nat) := by have := sw_plus (mem ((bys s).take k)) 0 j hj; simpa only [Nat.mul_zero, Nat.zero_add] using this
    have HN : Hid (∀ w', Row4 w' (w.heap.size + 1) 0 (mem ((bys s).take k)) → Row4 (w'.setCell ⟨w.heap.size + 1, 0, none⟩ (.int .u64 (sw (plus (mem ((bys s).take k)) (j)) 0 : Nat))) (w.heap.size + 1) 0 (mem ((bys s).take (k + 1)))) := Lib.hid fun w' h' => by
     have := row4_plus h' 0 j hj (by omega)
     rw [HM.out, h]
     simpa only [Nat.mul_zero, Nat.zero_add] using this
    clear h HM
    go_wp2
    go_region
    all_goals
     go_wp2
     go_roundw
     case rel => exact ⟨k + 1, by omega, by go_num, HN.out _ HR.out, (HB.out.drew).setCell (by simp) _, by simpa using hz, fun j => by simpa using HF.out j⟩
     case measure => simp [intOf]; omega
   ·have hq : ((s[k].toNat : Nat) : Int) / 64 = 1 := by omega
    have hr : ((s[k].toNat : Nat) : Int) % 64 = j := by omega
    have hw : bits .or .u64 (sw (mem ((bys s).take k)) 1 : Int) ((2 : Int) ^ j) = (sw (plus (mem ((bys s).take k)) (64 * 1 + j)) 1 : Nat) := by have := sw_plus (mem ((bys s).take k)) 1 j hj; simpa only [Nat.mul_zero, Nat.zero_add] using this
    have HN : Hid (∀ w', Row4 w' (w.heap.size + 1) 0 (mem ((bys s).take k)) → Row4 (w'.setCell ⟨w.heap.size + 1, 1, none⟩ (.int .u64 (sw (plus (mem ((bys s).take k)) (64 * 1 + j)) 1 : Nat))) (w.heap.size + 1) 0 (mem ((bys s).take (k + 1)))) := Lib.hid fun w' h' => by
     have := row4_plus h' 1 j hj (by omega)
     rw [HM.out, h]
     simpa only [Nat.mul_zero, Nat.zero_add] using this
    clear h HM
    go_wp2
    go_region
    all_goals
     go_wp2
     go_roundw
     case rel => exact ⟨k + 1, by omega, by go_num, HN.out _ HR.out, (HB.out.drew).setCell (by simp) _, by simpa using hz, fun j => by simpa using HF.out j⟩
     case measure => simp [intOf]; omega
   ·have hq : ((s[k].toNat : Nat) : Int) / 64 = 2 := by omega
    have hr : ((s[k].toNat : Nat) : Int) % 64 = j := by omega
    have hw : bits .or .u64 (sw (mem ((bys s).take k)) 2 : Int) ((2 : Int) ^ j) = (sw (plus (mem ((bys s).take k)) (64 * 2 + j)) 2 : Nat) := by have := sw_plus (mem ((bys s).take k)) 2 j hj; simpa only [Nat.mul_zero, Nat.zero_add] using this
    have HN : Hid (∀ w', Row4 w' (w.heap.size + 1) 0 (mem ((bys s).take k)) → Row4 (w'.setCell ⟨w.heap.size + 1, 2, none⟩ (.int .u64 (sw (plus (mem ((bys s).take k)) (64 * 2 + j)) 2 : Nat))) (w.heap.size + 1) 0 (mem ((bys s).take (k + 1)))) := Lib.hid fun w' h' => by
     have := row4_plus h' 2 j hj (by omega)
     rw [HM.out, h]
     simpa only [Nat.mul_zero, Nat.zero_add] using this
    clear h HM
    go_wp2
    go_region
    all_goals
     go_wp2
     go_roundw
     case rel => exact ⟨k + 1, by omega, by go_num, HN.out _ HR.out, (HB.out.drew).setCell (by simp) _, by simpa using hz, fun j => by simpa using HF.out j⟩
     case measure => simp [intOf]; omega
   ·have hq : ((s[k].toNat : Nat) : Int) / 64 = 3 := by omega
    have hr : ((s[k].toNat : Nat) : Int) % 64 = j := by omega
    have hw : bits .or .u64 (sw (mem ((bys s).take k)) 3 : Int) ((2 : Int) ^ j) = (sw (plus (mem ((bys s).take k)) (64 * 3 + j)) 3 : Nat) := by have := sw_plus (mem ((bys s).take k)) 3 j hj; simpa only [Nat.mul_zero, Nat.zero_add] using this
    have HN : Hid (∀ w', Row4 w' (w.heap.size + 1) 0 (mem ((bys s).take k)) → Row4 (w'.setCell ⟨w.heap.size + 1, 3, none⟩ (.int .u64 (sw (plus (mem ((bys s).take k)) (64 * 3 + j)) 3 : Nat))) (w.heap.size + 1) 0 (mem ((bys s).take (k + 1)))) := Lib.hid fun w' h' => by
     have := row4_plus h' 3 j hj (by omega)
     rw [HM.out, h]
     simpa only [Nat.mul_zero, Nat.zero_add] using this
    clear h HM
    go_wp2
    go_region
    all_goals
     go_wp2
     go_roundw
     case rel => exact ⟨k + 1, by omega, by go_num, HN.out _ HR.out, (HB.out.drew).setCell (by simp) _, by simpa using hz, fun j => by simpa using HF.out j⟩
     case measure => simp [intOf]; omega
  ·have HK : Hid (mem ((bys s).take k) = mem (bys s)) := Lib.hid (by rw [List.take_of_length_le (by rw [bys_length]; omega)])
   obtain ⟨c0, c1, c2, c3, g0, g1, g2, g3, hz'⟩ := res_facts HB.out (Nat.lt_succ_self _)
   go_wp2
   exact bodyPost_ret (by simp [results, Tryz.results73, go_sem, c0, c1, c2, c3]; rfl) rfl ⟨by rw [HK.out]; rfl, res_below HB.out _ _ _ _⟩
theorem row4_two (w : World) (p q : Nat → Bool) (t : TypeId) :
  Row4 (w.alloc (.cells #[.int .u64 (sw p 0 : Nat), .int .u64 (sw p 1 : Nat), .int .u64 (sw p 2 : Nat), .int .u64 (sw p 3 : Nat), .int .u64 (sw q 0 : Nat), .int .u64 (sw q 1 : Nat), .int .u64 (sw q 2 : Nat), .int .u64 (sw q 3 : Nat)] t)) w.heap.size 0 p ∧
  Row4 (w.alloc (.cells #[.int .u64 (sw p 0 : Nat), .int .u64 (sw p 1 : Nat), .int .u64 (sw p 2 : Nat), .int .u64 (sw p 3 : Nat), .int .u64 (sw q 0 : Nat), .int .u64 (sw q 1 : Nat), .int .u64 (sw q 2 : Nat), .int .u64 (sw q 3 : Nat)] t)) w.heap.size 4 q := by
 refine ⟨⟨?_, ?_, ?_, ?_⟩, ⟨?_, ?_, ?_, ?_⟩⟩ <;> simp
def orP (p q : Nat → Bool) (c : Nat) : Bool := p c || q c
def lessP (p q : Nat → Bool) (c : Nat) : Bool := p c && !q c
def noP (_ : Nat) : Bool := false
theorem unionL (w : World) (p q : Nat → Bool) (t : TypeId) :
  Calls Tryz.prog 98 #[.slice (some ⟨w.heap.size, 0, none⟩) 2 2] (w.alloc (.cells #[.int .u64 (sw p 0 : Nat), .int .u64 (sw p 1 : Nat), .int .u64 (sw p 2 : Nat), .int .u64 (sw p 3 : Nat), .int .u64 (sw q 0 : Nat), .int .u64 (sw q 1 : Nat), .int .u64 (sw q 2 : Nat), .int .u64 (sw q 3 : Nat)] t))
   fun e w' => e = .returned (SV (orP p q)) ∧ Below w.heap.size w w' :=
 (union2_any p q w.heap.size 2 _ (row4_two w p q t).1 (row4_two w p q t).2 (by simp)).mono fun _ _ h => ⟨h.1, ((Below.refl _ _).alloc (Nat.le_refl _) _).trans (h.2.mono (by simp))⟩
def NS (w V : World) (p : Nat → Bool) : Prop :=
 Below (w.heap.size + 1) (w.alloc (.cells #[.int .u64 0, .int .u64 0, .int .u64 0, .int .u64 0] 54)) V ∧ Row4 V (w.heap.size + 1) 0 p ∧ (∀ j, V.frozen? ⟨w.heap.size + 1, j, none⟩ = false) ∧ w.heap.size + 1 < V.heap.size
theorem NS.start (w : World) : NS w ((w.alloc (.cells #[.int .u64 0, .int .u64 0, .int .u64 0, .int .u64 0] 54)).alloc (.cells #[.int .u64 0, .int .u64 0, .int .u64 0, .int .u64 0] 54)) noP := by
 have hz : (w.alloc (.cells #[.int .u64 0, .int .u64 0, .int .u64 0, .int .u64 0] 54)).heap.size = w.heap.size + 1 := by simp
 refine ⟨(Below.refl _ _).alloc (by simp) _, ?_, ?_, by simp⟩
 ·rw [← hz]
  refine ⟨?_, ?_, ?_, ?_⟩ <;> rw [show noP = fun _ => false from rfl, sw_zero] <;> simp
 ·rw [← hz]
  intro j
  simp
theorem NS.next {w V V' : World} {p : Nat → Bool} (h : NS w V p) (hb : Below V.heap.size V V') : NS w V' p := by
 obtain ⟨h0, ⟨r0, r1, r2, r3⟩, hf, hz⟩ := h
 have k : ∀ o, V'.cell? ⟨w.heap.size + 1, o, none⟩ = V.cell? ⟨w.heap.size + 1, o, none⟩ := fun o => hb.cell (p := ⟨_, o, none⟩) hz
 have g : ∀ o, V'.frozen? ⟨w.heap.size + 1, o, none⟩ = V.frozen? ⟨w.heap.size + 1, o, none⟩ := fun o => hb.frozen (p := ⟨_, o, none⟩) hz
 exact ⟨h0.trans (hb.mono (Nat.le_of_lt hz)), ⟨(k _).trans r0, (k _).trans r1, (k _).trans r2, (k _).trans r3⟩, fun j => (g j).trans (hf j), Nat.lt_of_lt_of_le hz hb.size⟩
theorem NS.drew {w V : World} {p : Nat → Bool} (h : NS w V p) : NS w V.drew p := h.next (Below.refl _ _).drew
theorem row4_put {V : World} {b : Nat} {p : Nat → Bool} (q : Nat → Bool) (h : Row4 V b 0 p) :
  Row4 ((((V.setCell ⟨b, 0, none⟩ (.int .u64 (sw q 0 : Nat))).setCell ⟨b, 1, none⟩ (.int .u64 (sw q 1 : Nat))).setCell ⟨b, 2, none⟩ (.int .u64 (sw q 2 : Nat))).setCell ⟨b, 3, none⟩ (.int .u64 (sw q 3 : Nat))) b 0 q := by
 obtain ⟨r0, r1', r2', r3'⟩ := h
 have r1 : V.cell? ⟨b, 1, none⟩ = some (.int .u64 (sw p 1 : Nat)) := r1'
 have r2 : V.cell? ⟨b, 2, none⟩ = some (.int .u64 (sw p 2 : Nat)) := r2'
 have r3 : V.cell? ⟨b, 3, none⟩ = some (.int .u64 (sw p 3 : Nat)) := r3'
 have o : ∀ (W : World) (i j : Nat) (v : Value), i ≠ j → (W.setCell ⟨b, i, none⟩ v).cell? ⟨b, j, none⟩ = W.cell? ⟨b, j, none⟩ := fun W i j v _ => World.cell?_setCell_other _ _ _ _ (by simp)
 refine ⟨?_, ?_, ?_, ?_⟩
 ·rw [o _ 3 0 _ (by decide), o _ 2 0 _ (by decide), o _ 1 0 _ (by decide)]; exact World.cell?_setCell_same _ _ _ r0
 ·rw [o _ 3 (0 + 1) _ (by decide), o _ 2 (0 + 1) _ (by decide)]; exact World.cell?_setCell_same _ _ _ ((o _ 0 1 _ (by decide)).trans r1)
 ·rw [o _ 3 (0 + 2) _ (by decide)]; exact World.cell?_setCell_same _ _ _ ((o _ 1 2 _ (by decide)).trans ((o _ 0 2 _ (by decide)).trans r2))
 ·exact World.cell?_setCell_same _ _ _ ((o _ 2 3 _ (by decide)).trans ((o _ 1 3 _ (by decide)).trans ((o _ 0 3 _ (by decide)).trans r3)))
theorem NS.put {w V : World} {p : Nat → Bool} (q : Nat → Bool) (h : NS w V p) :
  NS w ((((V.setCell ⟨w.heap.size + 1, 0, none⟩ (.int .u64 (sw q 0 : Nat))).setCell ⟨w.heap.size + 1, 1, none⟩ (.int .u64 (sw q 1 : Nat))).setCell ⟨w.heap.size + 1, 2, none⟩ (.int .u64 (sw q 2 : Nat))).setCell ⟨w.heap.size + 1, 3, none⟩ (.int .u64 (sw q 3 : Nat))) q :=
 ⟨(((h.1.setCell (Nat.le_refl _) _).setCell (Nat.le_refl _) _).setCell (Nat.le_refl _) _).setCell (Nat.le_refl _) _, row4_put q h.2.1, fun j => by simpa using h.2.2.1 j, by simpa using h.2.2.2⟩
theorem NS.facts {w V : World} {p : Nat → Bool} (h : NS w V p) :
  (V.cell? ⟨w.heap.size + 1, 0, none⟩ = some (.int .u64 (sw p 0 : Nat)) ∧ V.cell? ⟨w.heap.size + 1, 1, none⟩ = some (.int .u64 (sw p 1 : Nat)) ∧ V.cell? ⟨w.heap.size + 1, 2, none⟩ = some (.int .u64 (sw p 2 : Nat)) ∧ V.cell? ⟨w.heap.size + 1, 3, none⟩ = some (.int .u64 (sw p 3 : Nat))) ∧
  (V.frozen? ⟨w.heap.size + 1, 0, none⟩ = false ∧ V.frozen? ⟨w.heap.size + 1, 1, none⟩ = false ∧ V.frozen? ⟨w.heap.size + 1, 2, none⟩ = false ∧ V.frozen? ⟨w.heap.size + 1, 3, none⟩ = false) ∧
  (V.cell? ⟨w.heap.size, 0, none⟩ = some (.int .u64 0) ∧ V.cell? ⟨w.heap.size, 1, none⟩ = some (.int .u64 0) ∧ V.cell? ⟨w.heap.size, 2, none⟩ = some (.int .u64 0) ∧ V.cell? ⟨w.heap.size, 3, none⟩ = some (.int .u64 0) ∧
   V.frozen? ⟨w.heap.size, 0, none⟩ = false ∧ V.frozen? ⟨w.heap.size, 1, none⟩ = false ∧ V.frozen? ⟨w.heap.size, 2, none⟩ = false ∧ V.frozen? ⟨w.heap.size, 3, none⟩ = false ∧ w.heap.size < V.heap.size) ∧ w.heap.size + 1 < V.heap.size :=
 ⟨⟨h.2.1.1, h.2.1.2.1, h.2.1.2.2.1, h.2.1.2.2.2⟩, ⟨h.2.2.1 0, h.2.2.1 1, h.2.2.1 2, h.2.2.1 3⟩, res_facts h.1 (Nat.lt_succ_self _), h.2.2.2⟩
end Go.Proofs.YtnpkcllbpnmabaaGreatDoor
