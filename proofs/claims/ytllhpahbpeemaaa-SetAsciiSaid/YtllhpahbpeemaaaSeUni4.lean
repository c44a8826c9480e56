/- The contract of Union over four sets. -/
import Derived.Test.YtllhpahbpeemaaaSeUni
namespace Go.Proofs.Ytllhpahbpeemaaa
open Go.RowKit

set_option maxRecDepth 100000 in
set_option maxHeartbeats 16000000 in
theorem union4_any (p0 p1 p2 p3 : Nat → Bool) (b cap : Nat) (w : World) (h0 : Row4 w b 0 p0) (h1 : Row4 w b 4 p1) (h2 : Row4 w b 8 p2) (h3 : Row4 w b 12 p3) (hb : b < w.heap.size) :
    Calls Try.prog 6 #[.slice (some ⟨b, 0, none⟩) 4 cap] w fun e w' => e = .returned (SV fun c => ((p0 c || p1 c || p2 c) || p3 c)) ∧ Below w.heap.size w w' := by
  obtain ⟨c00, c01', c02', c03'⟩ := h0
  have c01 : w.cell? ⟨b, 1, none⟩ = some (.int .u64 (sw p0 1 : Nat)) := c01'
  have c02 : w.cell? ⟨b, 2, none⟩ = some (.int .u64 (sw p0 2 : Nat)) := c02'
  have c03 : w.cell? ⟨b, 3, none⟩ = some (.int .u64 (sw p0 3 : Nat)) := c03'
  clear c01' c02' c03'
  obtain ⟨c10, c11', c12', c13'⟩ := h1
  have c11 : w.cell? ⟨b, 5, none⟩ = some (.int .u64 (sw p1 1 : Nat)) := c11'
  have c12 : w.cell? ⟨b, 6, none⟩ = some (.int .u64 (sw p1 2 : Nat)) := c12'
  have c13 : w.cell? ⟨b, 7, none⟩ = some (.int .u64 (sw p1 3 : Nat)) := c13'
  clear c11' c12' c13'
  obtain ⟨c20, c21', c22', c23'⟩ := h2
  have c21 : w.cell? ⟨b, 9, none⟩ = some (.int .u64 (sw p2 1 : Nat)) := c21'
  have c22 : w.cell? ⟨b, 10, none⟩ = some (.int .u64 (sw p2 2 : Nat)) := c22'
  have c23 : w.cell? ⟨b, 11, none⟩ = some (.int .u64 (sw p2 3 : Nat)) := c23'
  clear c21' c22' c23'
  obtain ⟨c30, c31', c32', c33'⟩ := h3
  have c31 : w.cell? ⟨b, 13, none⟩ = some (.int .u64 (sw p3 1 : Nat)) := c31'
  have c32 : w.cell? ⟨b, 14, none⟩ = some (.int .u64 (sw p3 2 : Nat)) := c32'
  have c33 : w.cell? ⟨b, 15, none⟩ = some (.int .u64 (sw p3 3 : Nat)) := c33'
  clear c31' c32' c33'
  have nb0 : b ≠ w.heap.size := by omega
  have hb1 : b < w.heap.size + 1 := by omega
  have nb1 : b ≠ w.heap.size + 1 := by omega
  have hb2 : b < w.heap.size + 1 + 1 := by omega
  have nb2 : b ≠ w.heap.size + 1 + 1 := by omega
  have hb3 : b < w.heap.size + 1 + 1 + 1 := by omega
  have nb3 : b ≠ w.heap.size + 1 + 1 + 1 := by omega
  have hb4 : b < w.heap.size + 1 + 1 + 1 + 1 := by omega
  have nb4 : b ≠ w.heap.size + 1 + 1 + 1 + 1 := by omega
  have z0 : bits .or .u64 0 (sw p0 0 : Int) = (sw p0 0 : Nat) := by rw [← sw_zero 0, sw_or]; simp
  have e10 := sw_or p0 p1 0
  have e20 := sw_or (fun c => p0 c || p1 c) p2 0
  have e30 := sw_or (fun c => (p0 c || p1 c || p2 c)) p3 0
  have z1 : bits .or .u64 0 (sw p0 1 : Int) = (sw p0 1 : Nat) := by rw [← sw_zero 1, sw_or]; simp
  have e11 := sw_or p0 p1 1
  have e21 := sw_or (fun c => p0 c || p1 c) p2 1
  have e31 := sw_or (fun c => (p0 c || p1 c || p2 c)) p3 1
  have z2 : bits .or .u64 0 (sw p0 2 : Int) = (sw p0 2 : Nat) := by rw [← sw_zero 2, sw_or]; simp
  have e12 := sw_or p0 p1 2
  have e22 := sw_or (fun c => p0 c || p1 c) p2 2
  have e32 := sw_or (fun c => (p0 c || p1 c || p2 c)) p3 2
  have z3 : bits .or .u64 0 (sw p0 3 : Int) = (sw p0 3 : Nat) := by rw [← sw_zero 3, sw_or]; simp
  have e13 := sw_or p0 p1 3
  have e23 := sw_or (fun c => p0 c || p1 c) p2 3
  have e33 := sw_or (fun c => (p0 c || p1 c || p2 c)) p3 3
  unfold SV
  have i00 := arr_idx0 (.int .u64 (sw p0 0 : Nat)) (.int .u64 (sw p0 1 : Nat)) (.int .u64 (sw p0 2 : Nat)) (.int .u64 (sw p0 3 : Nat))
  have i01 := arr_idx1 (.int .u64 (sw p0 0 : Nat)) (.int .u64 (sw p0 1 : Nat)) (.int .u64 (sw p0 2 : Nat)) (.int .u64 (sw p0 3 : Nat))
  have i02 := arr_idx2 (.int .u64 (sw p0 0 : Nat)) (.int .u64 (sw p0 1 : Nat)) (.int .u64 (sw p0 2 : Nat)) (.int .u64 (sw p0 3 : Nat))
  have i03 := arr_idx3 (.int .u64 (sw p0 0 : Nat)) (.int .u64 (sw p0 1 : Nat)) (.int .u64 (sw p0 2 : Nat)) (.int .u64 (sw p0 3 : Nat))
  have i10 := arr_idx0 (.int .u64 (sw p1 0 : Nat)) (.int .u64 (sw p1 1 : Nat)) (.int .u64 (sw p1 2 : Nat)) (.int .u64 (sw p1 3 : Nat))
  have i11 := arr_idx1 (.int .u64 (sw p1 0 : Nat)) (.int .u64 (sw p1 1 : Nat)) (.int .u64 (sw p1 2 : Nat)) (.int .u64 (sw p1 3 : Nat))
  have i12 := arr_idx2 (.int .u64 (sw p1 0 : Nat)) (.int .u64 (sw p1 1 : Nat)) (.int .u64 (sw p1 2 : Nat)) (.int .u64 (sw p1 3 : Nat))
  have i13 := arr_idx3 (.int .u64 (sw p1 0 : Nat)) (.int .u64 (sw p1 1 : Nat)) (.int .u64 (sw p1 2 : Nat)) (.int .u64 (sw p1 3 : Nat))
  have i20 := arr_idx0 (.int .u64 (sw p2 0 : Nat)) (.int .u64 (sw p2 1 : Nat)) (.int .u64 (sw p2 2 : Nat)) (.int .u64 (sw p2 3 : Nat))
  have i21 := arr_idx1 (.int .u64 (sw p2 0 : Nat)) (.int .u64 (sw p2 1 : Nat)) (.int .u64 (sw p2 2 : Nat)) (.int .u64 (sw p2 3 : Nat))
  have i22 := arr_idx2 (.int .u64 (sw p2 0 : Nat)) (.int .u64 (sw p2 1 : Nat)) (.int .u64 (sw p2 2 : Nat)) (.int .u64 (sw p2 3 : Nat))
  have i23 := arr_idx3 (.int .u64 (sw p2 0 : Nat)) (.int .u64 (sw p2 1 : Nat)) (.int .u64 (sw p2 2 : Nat)) (.int .u64 (sw p2 3 : Nat))
  have i30 := arr_idx0 (.int .u64 (sw p3 0 : Nat)) (.int .u64 (sw p3 1 : Nat)) (.int .u64 (sw p3 2 : Nat)) (.int .u64 (sw p3 3 : Nat))
  have i31 := arr_idx1 (.int .u64 (sw p3 0 : Nat)) (.int .u64 (sw p3 1 : Nat)) (.int .u64 (sw p3 2 : Nat)) (.int .u64 (sw p3 3 : Nat))
  have i32 := arr_idx2 (.int .u64 (sw p3 0 : Nat)) (.int .u64 (sw p3 1 : Nat)) (.int .u64 (sw p3 2 : Nat)) (.int .u64 (sw p3 3 : Nat))
  have i33 := arr_idx3 (.int .u64 (sw p3 0 : Nat)) (.int .u64 (sw p3 1 : Nat)) (.int .u64 (sw p3 2 : Nat)) (.int .u64 (sw p3 3 : Nat))
  go_enter Try.func6, Try.ntmps6
  go_wp2
  refine wp_loop_rounds 5 ?_
  iterate 4 (rw [rounds_succ]; go_wp2; refine wp_loop_rounds 5 ?_; iterate 5 (rw [rounds_succ]; go_wp2))
  rw [rounds_succ]
  go_wp2
  exact bodyPost_ret (by simp [results, Try.results6, go_sem]) rfl ⟨rfl, ((((((Below.refl _ _).alloc (Nat.le_refl _) _).alloc (by simp) _).alloc (by simp; omega) _).alloc (by simp; omega) _).alloc (by simp; omega) _).alloc (by simp; omega) _⟩

end Go.Proofs.Ytllhpahbpeemaaa
