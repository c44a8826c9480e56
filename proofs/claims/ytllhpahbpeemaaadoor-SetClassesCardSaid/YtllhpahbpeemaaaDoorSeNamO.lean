/- named at a text that is no class's name. -/
import Derived.Test.YtllhpahbpeemaaaDoorSeNam
namespace Go.Proofs.YtllhpahbpeemaaaDoor
open Go.RowKit

set_option maxRecDepth 100000 in
set_option maxHeartbeats 8000000 in
theorem named_other (nm : ByteArray) (n_alpha : (nm.toList == [97, 108, 112, 104, 97]) = false) (n_digit : (nm.toList == [100, 105, 103, 105, 116]) = false) (n_alnum : (nm.toList == [97, 108, 110, 117, 109]) = false) (n_upper : (nm.toList == [117, 112, 112, 101, 114]) = false) (n_lower : (nm.toList == [108, 111, 119, 101, 114]) = false) (n_space : (nm.toList == [115, 112, 97, 99, 101]) = false) (n_blank : (nm.toList == [98, 108, 97, 110, 107]) = false) (n_print : (nm.toList == [112, 114, 105, 110, 116]) = false) (n_graph : (nm.toList == [103, 114, 97, 112, 104]) = false) (n_punct : (nm.toList == [112, 117, 110, 99, 116]) = false) (n_cntrl : (nm.toList == [99, 110, 116, 114, 108]) = false) (n_xdigit : (nm.toList == [120, 100, 105, 103, 105, 116]) = false) (w : World) :
    Calls Tryd.prog 38 #[.string nm] w fun e w' => e = .returned (SV noP) ∧ Below w.heap.size w w' := by
  rw [SV_of (p := noP) (sw_zero 0).symm (sw_zero 1).symm (sw_zero 2).symm (sw_zero 3).symm]
  go_enter Tryd.func38, Tryd.ntmps38
  go_wp2
  exact bodyPost_ret (by simp [results, Tryd.results38, go_sem]) rfl ⟨rfl, ((Below.refl _ _).alloc (Nat.le_refl _) _).alloc (by simp) _⟩
end Go.Proofs.YtllhpahbpeemaaaDoor
