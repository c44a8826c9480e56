/- The reference's One and any: a set as a tree. -/
import Derived.Test.YtlkcopjjeknbkaaGreatDoorKRm
import Derived.Test.YtlkcopjjeknbkaaGreatDoorKSet
import Derived.Test.YtlkcopjjeknbkaaGreatDoorKRs
namespace Go.Proofs.YtlkcopjjeknbkaaGreatDoor
open Go.RowKit

set_option maxHeartbeats 4000000 in
theorem one_any (c : Nat) (hc : c < 256) (w : World) : Calls Tryz.prog 24 #[.int .u8 (c : Nat)] w fun x w' => x = .returned ((setN (mem [(c : Int)])).v nilS) ∧ Below w.heap.size w w' := by
  have HN : ∀ X, Hid (Calls Tryz.prog 50 #[.agg #[.int .u64 0, .int .u64 0, .int .u64 0, .int .u64 0], .int .u8 (c : Nat)] X fun x w' => x = .returned (.agg #[.int .u64 (sw (mem [(c : Int)]) 0 : Nat), .int .u64 (sw (mem [(c : Int)]) 1 : Nat), .int .u64 (sw (mem [(c : Int)]) 2 : Nat), .int .u64 (sw (mem [(c : Int)]) 3 : Nat)]) ∧ Below X.heap.size X w') := fun X => Lib.hid (by
    have := radd_any noP c hc X
    rw [SV_congr (p := plus noP c) (q := mem [(c : Int)]) (fun d _ => by
      unfold plus mem noP
      by_cases h : d = c
      · subst h; simp
      · have h2 : ¬ (d : Int) = (c : Int) := by omega
        simp [h, h2])] at this
    unfold SV at this
    have z : ∀ i, ((sw noP i : Nat) : Int) = 0 := sw_zero
    rw [z, z, z, z] at this
    exact this)
  rw [setN_v]
  clear hc
  go_enter Tryz.func24, Tryz.ntmps24
  go_wp2_with fail
  refine (HN _).out.mono ?_
  rintro x w1 ⟨rfl, hb⟩
  have hb1 := (hb.block w.heap.size (by simp)).trans (alloc_last w _)
  have HG := Lib.hid hb1
  have HB := Lib.hid (((Below.refl w.heap.size w).alloc (Nat.le_refl _) _).trans (hb.mono (by simp)))
  have hlt := lt_blkB hb1
  clear hb hb1
  go_wp2_with (first | (refine wpList_store_re rfl _ _ rfl rfl w.heap.size (setN (mem [(c : Int)])) none 0 0 rfl rfl _ HG.out rfl ?_) | fail)
  exact bodyPost_ret (results_re1 rfl _ _ w.heap.size (setN (mem [(c : Int)])) nilS rfl (setRow_selfR HG.out _)) rfl ⟨rfl, below_setRow HB.out (Nat.le_refl _) _⟩
end Go.Proofs.YtlkcopjjeknbkaaGreatDoor
