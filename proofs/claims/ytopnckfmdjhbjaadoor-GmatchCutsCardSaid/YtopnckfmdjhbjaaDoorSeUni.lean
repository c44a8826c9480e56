/- The contract of Union over none, one, two and four sets. -/
import Derived.Test.YtopnckfmdjhbjaaDoorSeHas
namespace Go.Proofs.YtopnckfmdjhbjaaDoor
open Go.RowKit

theorem sw_or (p q : Nat → Bool) (i : Nat) : bits .or .u64 (sw p i : Int) (sw q i : Int) = (sw (fun c => p c || q c) i : Nat) := wd_or _ _
theorem sw_zero (i : Nat) : ((sw (fun _ => false) i : Nat) : Int) = 0 := by
  have : sw (fun _ => false) i = 0 := (show (0 : Nat) = wd fun _ => false from wd_zero).symm
  rw [this]; rfl
/-- The four words of a set, in a row of cells. -/
def Row4 (w : World) (b o : Nat) (p : Nat → Bool) : Prop :=
  w.cell? ⟨b, o, none⟩ = some (.int .u64 (sw p 0 : Nat)) ∧ w.cell? ⟨b, o + 1, none⟩ = some (.int .u64 (sw p 1 : Nat)) ∧ w.cell? ⟨b, o + 2, none⟩ = some (.int .u64 (sw p 2 : Nat)) ∧ w.cell? ⟨b, o + 3, none⟩ = some (.int .u64 (sw p 3 : Nat))

set_option maxHeartbeats 4000000 in
theorem union_nil (w : World) :
    Calls Tryd.prog 80 #[.slice none 0 0] w fun e w' => e = .returned (SV fun _ => false) ∧ Below w.heap.size w w' := by
  rw [SV_of (sw_zero 0).symm (sw_zero 1).symm (sw_zero 2).symm (sw_zero 3).symm]
  go_enter Tryd.func80, Tryd.ntmps80
  go_wp2
  refine wp_loop_rounds 1 ?_
  rw [rounds_succ]
  go_wp2
  exact bodyPost_ret (by simp [results, Tryd.results80, go_sem]) rfl ⟨rfl, ((Below.refl _ _).alloc (Nat.le_refl _) _).alloc (by simp) _⟩

set_option maxRecDepth 100000 in
set_option maxHeartbeats 16000000 in
theorem union2_any (p0 p1 : Nat → Bool) (b cap : Nat) (w : World) (h0 : Row4 w b 0 p0) (h1 : Row4 w b 4 p1) (hb : b < w.heap.size) :
    Calls Tryd.prog 80 #[.slice (some ⟨b, 0, none⟩) 2 cap] w fun e w' => e = .returned (SV fun c => p0 c || p1 c) ∧ Below w.heap.size w w' := by
  obtain ⟨c00, c01', c02', c03'⟩ := h0
  have c01 : w.cell? ⟨b, 1, none⟩ = some (.int .u64 (sw p0 1 : Nat)) := c01'
  have c02 : w.cell? ⟨b, 2, none⟩ = some (.int .u64 (sw p0 2 : Nat)) := c02'
  have c03 : w.cell? ⟨b, 3, none⟩ = some (.int .u64 (sw p0 3 : Nat)) := c03'
  clear c01' c02' c03'
  obtain ⟨c10, c11', c12', c13'⟩ := h1
  have c11 : w.cell? ⟨b, 5, none⟩ = some (.int .u64 (sw p1 1 : Nat)) := c11'
  have c12 : w.cell? ⟨b, 6, none⟩ = some (.int .u64 (sw p1 2 : Nat)) := c12'
  have c13 : w.cell? ⟨b, 7, none⟩ = some (.int .u64 (sw p1 3 : Nat)) := c13'
  clear c11' c12' c13'
  have nb0 : b ≠ w.heap.size := by omega
  have hb1 : b < w.heap.size + 1 := by omega
  have nb1 : b ≠ w.heap.size + 1 := by omega
  have hb2 : b < w.heap.size + 1 + 1 := by omega
  have nb2 : b ≠ w.heap.size + 1 + 1 := by omega
  have z0 : bits .or .u64 0 (sw p0 0 : Int) = (sw p0 0 : Nat) := by rw [← sw_zero 0, sw_or]; simp
  have e10 := sw_or p0 p1 0
  have z1 : bits .or .u64 0 (sw p0 1 : Int) = (sw p0 1 : Nat) := by rw [← sw_zero 1, sw_or]; simp
  have e11 := sw_or p0 p1 1
  have z2 : bits .or .u64 0 (sw p0 2 : Int) = (sw p0 2 : Nat) := by rw [← sw_zero 2, sw_or]; simp
  have e12 := sw_or p0 p1 2
  have z3 : bits .or .u64 0 (sw p0 3 : Int) = (sw p0 3 : Nat) := by rw [← sw_zero 3, sw_or]; simp
  have e13 := sw_or p0 p1 3
  unfold SV
  have i00 := arr_idx0 (.int .u64 (sw p0 0 : Nat)) (.int .u64 (sw p0 1 : Nat)) (.int .u64 (sw p0 2 : Nat)) (.int .u64 (sw p0 3 : Nat))
  have i01 := arr_idx1 (.int .u64 (sw p0 0 : Nat)) (.int .u64 (sw p0 1 : Nat)) (.int .u64 (sw p0 2 : Nat)) (.int .u64 (sw p0 3 : Nat))
  have i02 := arr_idx2 (.int .u64 (sw p0 0 : Nat)) (.int .u64 (sw p0 1 : Nat)) (.int .u64 (sw p0 2 : Nat)) (.int .u64 (sw p0 3 : Nat))
  have i03 := arr_idx3 (.int .u64 (sw p0 0 : Nat)) (.int .u64 (sw p0 1 : Nat)) (.int .u64 (sw p0 2 : Nat)) (.int .u64 (sw p0 3 : Nat))
  have i10 := arr_idx0 (.int .u64 (sw p1 0 : Nat)) (.int .u64 (sw p1 1 : Nat)) (.int .u64 (sw p1 2 : Nat)) (.int .u64 (sw p1 3 : Nat))
  have i11 := arr_idx1 (.int .u64 (sw p1 0 : Nat)) (.int .u64 (sw p1 1 : Nat)) (.int .u64 (sw p1 2 : Nat)) (.int .u64 (sw p1 3 : Nat))
  have i12 := arr_idx2 (.int .u64 (sw p1 0 : Nat)) (.int .u64 (sw p1 1 : Nat)) (.int .u64 (sw p1 2 : Nat)) (.int .u64 (sw p1 3 : Nat))
  have i13 := arr_idx3 (.int .u64 (sw p1 0 : Nat)) (.int .u64 (sw p1 1 : Nat)) (.int .u64 (sw p1 2 : Nat)) (.int .u64 (sw p1 3 : Nat))
  go_enter Tryd.func80, Tryd.ntmps80
  go_wp2
  refine wp_loop_rounds 3 ?_
  iterate 2 (rw [rounds_succ]; go_wp2; refine wp_loop_rounds 5 ?_; iterate 5 (rw [rounds_succ]; go_wp2))
  rw [rounds_succ]
  go_wp2
  exact bodyPost_ret (by simp [results, Tryd.results80, go_sem]) rfl ⟨rfl, ((((Below.refl _ _).alloc (Nat.le_refl _) _).alloc (by simp) _).alloc (by simp; omega) _).alloc (by simp; omega) _⟩

end Go.Proofs.YtopnckfmdjhbjaaDoor
