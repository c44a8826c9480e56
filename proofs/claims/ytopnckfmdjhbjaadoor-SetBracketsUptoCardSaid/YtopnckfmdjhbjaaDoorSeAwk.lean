/- The bracket that every program must know (awake). -/
import Derived.Test.YtopnckfmdjhbjaaDoorKRdr
import Derived.Test.YtopnckfmdjhbjaaDoorKSet
import Derived.Test.YtopnckfmdjhbjaaDoorScDigits
import Derived.Lib.SlBytesConst
import Derived.Deep.RegionWith
import Derived.Deep.RegionHeld3
import Derived.Below
import Derived.Laws.Rows
namespace Go.Proofs.YtopnckfmdjhbjaaDoor
open Go.RowKit

def awkL : List Int := [97, 45, 99, 93, 120]
def awkS : ByteArray := ofBys awkL
theorem awk_sz : awkS.size = 5 := by kernel_rfl
theorem awk0 : atB awkS 0 = 97 := by kernel_rfl
theorem awk1 : atB awkS 1 = 45 := by kernel_rfl
theorem awk2 : atB awkS 2 = 99 := by kernel_rfl
theorem awk3 : atB awkS 3 = 93 := by kernel_rfl
theorem awk_bracket (w : World) (rb cb : Nat) (h : Rdr w rb cb awkS 0 0 3) :
    Calls Tryd.prog 54 #[.pointer (some ⟨rb, 0, none⟩)] w fun e w' => e = .returned (.tuple #[SV (orP noP (rng 97 99)), .nilIface]) ∧ Mv cb awkS 4 w w' := by
  refine bracket_one rb cb awkS 0 3 0 3 (rng 97 99) w h (by decide) (by rw [awk0]; decide) awk3 fun w' h' => ?_
  refine part_range rb cb awkS 0 0 1 3 0 97 2 99 3 w' h' (by decide) (by decide) (by decide) (fun w2 h2 => ?_) (fun w2 h2 => ?_) (fun w2 h2 => ?_)
  · have := item_byte rb cb awkS 0 0 3 w2 h2 (by decide) (by rw [awk_sz]; decide) (by rw [awk0]; decide)
    rw [awk0] at this
    exact this
  · exact dash_yes rb cb awkS 1 0 3 w2 h2 awk1 (by rw [awk2]; decide)
  · have := item_byte rb cb awkS 2 0 3 w2 h2 (by decide) (by rw [awk_sz]; decide) (by rw [awk2]; decide)
    rw [awk2] at this
    exact this
theorem awk_sl (w : World) (z : Nat × Nat) : Sl (w.alloc (.cells #[.int .u8 97, .int .u8 45, .int .u8 99, .int .u8 93, .int .u8 120] 5 z)) (.slice (some ⟨w.heap.size, 0, none⟩) 5 5) awkL := by
  refine ⟨?_, by decide, Or.inr ⟨w.heap.size, 0, 5, rfl, by decide, by decide, ?_⟩⟩
  · intro i
    unfold awkL
    rcases i with _ | _ | _ | _ | _ | i
    all_goals simp
  · intro i hi
    have hi' : i < 5 := hi
    have hb := alloc_last w (.cells #[.int .u8 97, .int .u8 45, .int .u8 99, .int .u8 93, .int .u8 120] 5 z)
    unfold awkL
    rcases (by omega : i = 0 ∨ i = 1 ∨ i = 2 ∨ i = 3 ∨ i = 4) with rfl | rfl | rfl | rfl | rfl
    all_goals exact (cell_of_row _ _ _ _ _ _ hb).trans rfl

set_option maxRecDepth 100000 in
set_option maxHeartbeats 8000000 in
theorem awake5_any (w : World) : Calls Tryd.prog 32 #[] w fun e w' => e = .returned (.bool true) ∧ Below w.heap.size w w' := by
  have HL : ∀ w, Hid (Calls Tryd.prog 63 #[.agg #[.int .u64 (sw (orP noP (rng 97 99)) 0 : Nat), .int .u64 (sw (orP noP (rng 97 99)) 1 : Nat), .int .u64 (sw (orP noP (rng 97 99)) 2 : Nat), .int .u64 (sw (orP noP (rng 97 99)) 3 : Nat)]] w fun e w' => e = .returned (.int .i64 3) ∧ Below w.heap.size w w') :=
    fun w => Lib.hid ((len_any (orP noP (rng 97 99)) w).mono fun _ _ h => ⟨by rw [h.1, show cntS (orP noP (rng 97 99)) = 3 by kernel_rfl]; rfl, h.2⟩)
  have kc := fun (w : World) (C : Array Value) (n c : Nat) => Lib.run_convert_bytes_const (P := Tryd.prog) w 22 5 C n c Tryd.underlying22 Tryd.underlying5
  go_enter Tryd.func32, Tryd.ntmps32
  go_wp2_with fail
  refine (bkt_ok _ _ _ _ awkL 3 (orP noP (rng 97 99)) 4 _ (awk_sl w _) rfl (by decide) (fun w' rb cb h => awk_bracket w' rb cb h)).mono ?_
  rintro e w1 ⟨rfl, hb1⟩
  have HB1 := Lib.hid (((Below.refl w.heap.size w).alloc (Nat.le_refl _) _).trans (hb1.mono (by simp)))
  clear hb1
  unfold SV
  go_wp2_with fail
  refine (HL _).out.mono ?_
  rintro e w2 ⟨rfl, hb2⟩
  have HB2 := Lib.hid hb2
  clear hb2
  go_wp2
  go_ret
  exact ⟨rfl, below_thn (HB1.out.alloc HB1.out.size _) (Nat.le_refl _) HB2.out⟩
end Go.Proofs.YtopnckfmdjhbjaaDoor
