import Derived.Test.YtnpkcllbpnmabaaGreatDoorProg
import Derived.Test.YtnpkcllbpnmabaaGreatDoorSeBit
import Derived.Test.YtnpkcllbpnmabaaGreatDoorScByte
import Derived.Outline
import Derived.Laws.Bits128
import Derived.Lib.Hide
import Derived.BigQuiet
import Derived.BigGuardPart
import Derived.Test.YtnpkcllbpnmabaaGreatDoorScRead
import Derived.LoopN
import Derived.LoopTactic
import Derived.Deep.RegionWith
import Derived.Deep.RegionHeld3
import Derived.RegionTactic
import Derived.Below
namespace Go.Proofs.YtnpkcllbpnmabaaGreatDoor
open Go.RowKit
def sw (p : Nat → Bool) (i : Nat) : Nat := wd fun j => p (64 * i + j)
def SV (p : Nat → Bool) : Value := .agg #[.int .u64 (sw p 0 : Nat), .int .u64 (sw p 1 : Nat), .int .u64 (sw p 2 : Nat), .int .u64 (sw p 3 : Nat)]
theorem bel_w (m : Nat) (hm : m ≤ 64) : IntKind.u64.wrap (IntKind.u64.wrap (2 ^ m) - 1) = (wd fun j => decide (j < m) : Nat) := by
 rw [← wd_below m hm, IntKind.wrap_u64, IntKind.wrap_u64]
 have h1 : 2 ^ m ≤ 2 ^ 64 := Nat.pow_le_pow_right (by decide) hm
 have h2 : 0 < 2 ^ m := Nat.two_pow_pos m
 have e : ((2 : Int) ^ m) = ((2 ^ m : Nat) : Int) := by simp
 rw [e]
 omega
theorem SV_of {p : Nat → Bool} {a b c d : Int} (h0 : a = (sw p 0 : Nat)) (h1 : b = (sw p 1 : Nat)) (h2 : c = (sw p 2 : Nat)) (h3 : d = (sw p 3 : Nat)) : SV p = .agg #[.int .u64 a, .int .u64 b, .int .u64 c, .int .u64 d] := by
 unfold SV
 rw [h0, h1, h2, h3]
theorem bel_n (n : Nat) (i : Nat) (m : Nat) (hm : m ≤ 64) (h : ∀ j, j < 64 → (64 * i + j < n ↔ j < m)) : IntKind.u64.wrap (IntKind.u64.wrap (2 ^ m) - 1) = (sw (fun c => decide (c < n)) i : Nat) := by
 rw [bel_w m hm]
 unfold sw
 exact congrArg (Nat.cast (R := Int)) (wd_congr fun j hj => by simp only [decide_eq_decide]; exact (h j hj).symm)
theorem bel_0 (n : Nat) (i : Nat) (h : n ≤ 64 * i) : (0 : Int) = (sw (fun c => decide (c < n)) i : Nat) := by
 exact (show (0 : Int) = IntKind.u64.wrap (IntKind.u64.wrap (2 ^ 0) - 1) by rw [IntKind.wrap_u64, IntKind.wrap_u64]; decide).trans (bel_n n i 0 (by omega) (fun j hj => by omega))
theorem bel_f (n : Nat) (i : Nat) (h : 64 * i + 64 ≤ n) : (18446744073709551615 : Int) = (sw (fun c => decide (c < n)) i : Nat) := by
 exact (show (18446744073709551615 : Int) = IntKind.u64.wrap (IntKind.u64.wrap (2 ^ 64) - 1) by rw [IntKind.wrap_u64, IntKind.wrap_u64]; decide).trans (bel_n n i 64 (by omega) (fun j hj => by omega))
set_option maxHeartbeats 2000000 in
theorem below_any (n : Nat) (hn : n ≤ 256) (w : World) :
  Calls Tryz.prog 86 #[.int .i64 n] w fun e w' => e = .returned (SV fun c => decide (c < n)) ∧ Below w.heap.size w w' := by
 have kf : IntKind.u64.wrap (IntKind.u64.wrap 18446744073709551616 - 1) = 18446744073709551615 := by rw [IntKind.wrap_u64, IntKind.wrap_u64]; decide
 rcases (by omega : n < 64 ∨ n = 64 ∨ (64 < n ∧ n < 128) ∨ n = 128 ∨ (128 < n ∧ n < 192) ∨ n = 192 ∨ (192 < n ∧ n < 256) ∨ n = 256) with h | rfl | ⟨h, h'⟩ | rfl | ⟨h, h'⟩ | rfl | ⟨h, h'⟩ | rfl
 ·rw [SV_of (bel_n n 0 n (by omega) (by omega)) (bel_0 n 1 (by omega)) (bel_0 n 2 (by omega)) (bel_0 n 3 (by omega))]
  go_enter Tryz.func86, Tryz.ntmps86
  go_wp2
  refine wp_loop_rounds 5 ?_
  iterate 5 (rw [rounds_succ]; go_wp2)
  exact bodyPost_ret (by simp [results, Tryz.results86, go_sem]) rfl ⟨rfl, ((Below.refl _ _).alloc (Nat.le_refl _) _).alloc (by simp) _⟩
 ·rw [SV_of (bel_f 64 0 (by omega)) (bel_0 64 1 (by omega)) (bel_0 64 2 (by omega)) (bel_0 64 3 (by omega))]
  show Calls Tryz.prog 86 #[.int .i64 64] w _
  go_enter Tryz.func86, Tryz.ntmps86
  go_wp2
  refine wp_loop_rounds 5 ?_
  iterate 5 (rw [rounds_succ]; go_wp2)
  exact bodyPost_ret (by simp [results, Tryz.results86, go_sem]) rfl ⟨rfl, ((Below.refl _ _).alloc (Nat.le_refl _) _).alloc (by simp) _⟩
 ·rw [SV_of (bel_f n 0 (by omega)) (bel_n n 1 (n - 64) (by omega) (by omega)) (bel_0 n 2 (by omega)) (bel_0 n 3 (by omega))]
  go_enter Tryz.func86, Tryz.ntmps86
  go_wp2
  refine wp_loop_rounds 5 ?_
  iterate 5 (rw [rounds_succ]; go_wp2)
  exact bodyPost_ret (by simp [results, Tryz.results86, go_sem]) rfl ⟨rfl, ((Below.refl _ _).alloc (Nat.le_refl _) _).alloc (by simp) _⟩
 ·rw [SV_of (bel_f 128 0 (by omega)) (bel_f 128 1 (by omega)) (bel_0 128 2 (by omega)) (bel_0 128 3 (by omega))]
  show Calls Tryz.prog 86 #[.int .i64 128] w _
  go_enter Tryz.func86, Tryz.ntmps86
  go_wp2
  refine wp_loop_rounds 5 ?_
  iterate 5 (rw [rounds_succ]; go_wp2)
  exact bodyPost_ret (by simp [results, Tryz.results86, go_sem]) rfl ⟨rfl, ((Below.refl _ _).alloc (Nat.le_refl _) _).alloc (by simp) _⟩
 ·rw [SV_of (bel_f n 0 (by omega)) (bel_f n 1 (by omega)) (bel_n n 2 (n - 128) (by omega) (by omega)) (bel_0 n 3 (by omega))]
  go_enter Tryz.func86, Tryz.ntmps86
  go_wp2
  refine wp_loop_rounds 5 ?_
  iterate 5 (rw [rounds_succ]; go_wp2)
  exact bodyPost_ret (by simp [results, Tryz.results86, go_sem]) rfl ⟨rfl, ((Below.refl _ _).alloc (Nat.le_refl _) _).alloc (by simp) _⟩
 ·rw [SV_of (bel_f 192 0 (by omega)) (bel_f 192 1 (by omega)) (bel_f 192 2 (by omega)) (bel_0 192 3 (by omega))]
  show Calls Tryz.prog 86 #[.int .i64 192] w _
  go_enter Tryz.func86, Tryz.ntmps86
  go_wp2
  refine wp_loop_rounds 5 ?_
  iterate 5 (rw [rounds_succ]; go_wp2)
  exact bodyPost_ret (by simp [results, Tryz.results86, go_sem]) rfl ⟨rfl, ((Below.refl _ _).alloc (Nat.le_refl _) _).alloc (by simp) _⟩
 ·rw [SV_of (bel_f n 0 (by omega)) (bel_f n 1 (by omega)) (bel_f n 2 (by omega)) (bel_n n 3 (n - 192) (by omega) (by omega))]
  go_enter Tryz.func86, Tryz.ntmps86
  go_wp2
  refine wp_loop_rounds 5 ?_
  iterate 5 (rw [rounds_succ]; go_wp2)
  exact bodyPost_ret (by simp [results, Tryz.results86, go_sem]) rfl ⟨rfl, ((Below.refl _ _).alloc (Nat.le_refl _) _).alloc (by simp) _⟩
 ·rw [SV_of (bel_f 256 0 (by omega)) (bel_f 256 1 (by omega)) (bel_f 256 2 (by omega)) (bel_f 256 3 (by omega))]
  show Calls Tryz.prog 86 #[.int .i64 256] w _
  go_enter Tryz.func86, Tryz.ntmps86
  go_wp2
  refine wp_loop_rounds 5 ?_
  iterate 5 (rw [rounds_succ]; go_wp2)
  exact bodyPost_ret (by simp [results, Tryz.results86, go_sem]) rfl ⟨rfl, ((Below.refl _ _).alloc (Nat.le_refl _) _).alloc (by simp) _⟩
end Go.Proofs.YtnpkcllbpnmabaaGreatDoor
