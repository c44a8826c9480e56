/- The contract of bits.OnesCount64. -/
import Derived.Test.YtoodpajbefffhaaDoorProg
import Derived.Test.YtoodpajbefffhaaDoorSeBit
import Derived.Test.YtoodpajbefffhaaDoorScByte
import Derived.Outline
import Derived.Laws.Bits128
import Derived.Lib.Hide
import Derived.BigQuiet
import Derived.BigGuardPart
namespace Go.Proofs.YtoodpajbefffhaaDoor
open Go.RowKit

def cntW (q : Nat → Bool) : Nat := cntB ((List.range 64).map q)
set_option maxHeartbeats 2000000 in
theorem ones_any (q : Nat → Bool) (w : World) :
    Calls Tryd.prog 75 #[.int .u64 (wd q : Nat)] w fun e w' => e = .returned (.int .i64 (cntW q : Nat)) ∧ w = w' := by
  obtain ⟨h1, h2, h3, h4, h5⟩ := oc_all ((List.range 64).map q) (by simp)
  rw [← wd_cnt] at h1 h2 h3 h4 h5
  have hx := wd_lt q
  unfold cntW
  obtain ⟨c, hc⟩ : ∃ c, c = cntB ((List.range 64).map q) := ⟨_, rfl⟩
  rw [← hc] at h5 ⊢
  obtain ⟨x, hxe⟩ : ∃ x, x = wd q := ⟨_, rfl⟩
  rw [← hxe] at h1 h2 h3 h4 h5 hx ⊢
  clear hxe hc
  obtain ⟨y1, hy1⟩ : ∃ y, y = oc1 x := ⟨_, rfl⟩
  rw [← hy1] at h1 h2 h3 h4 h5
  obtain ⟨y2, hy2⟩ : ∃ y, y = oc2 y1 := ⟨_, rfl⟩
  rw [← hy2] at h2 h3 h4 h5
  obtain ⟨y3, hy3⟩ : ∃ y, y = oc3 y2 := ⟨_, rfl⟩
  rw [← hy3] at h3 h4 h5
  unfold oc4 at h3 h5
  unfold oc1 at hy1
  unfold oc2 at hy2
  unfold oc3 at hy3
  obtain ⟨y4, hy4⟩ : ∃ y, y = y3 + y3 / 256 := ⟨_, rfl⟩
  rw [← hy4] at h3 h5
  obtain ⟨y5, hy5⟩ : ∃ y, y = y4 + y4 / 65536 := ⟨_, rfl⟩
  rw [← hy5] at h3 h5
  obtain ⟨y6, hy6⟩ : ∃ y, y = y5 + y5 / 4294967296 := ⟨_, rfl⟩
  rw [← hy6] at h5
  have f1 : bits .and .u64 ((x : Int) / 2) 6148914691236517205 = ((x / 2 &&& 6148914691236517205 : Nat) : Int) := by have := u64_and_nat (x / 2) 6148914691236517205 (by omega) (by decide); rw [← this]; rfl
  have f2 : bits .and .u64 (x : Int) 6148914691236517205 = ((x &&& 6148914691236517205 : Nat) : Int) := u64_and_nat x 6148914691236517205 (by omega) (by decide)
  have g1 : IntKind.u64.wrap (((x / 2 &&& 6148914691236517205 : Nat) : Int) + ((x &&& 6148914691236517205 : Nat) : Int)) = (y1 : Int) := by rw [IntKind.wrap_u64]; omega
  have f3 : bits .and .u64 ((y1 : Int) / 4) 3689348814741910323 = ((y1 / 4 &&& 3689348814741910323 : Nat) : Int) := by have := u64_and_nat (y1 / 4) 3689348814741910323 (by omega) (by decide); rw [← this]; rfl
  have f4 : bits .and .u64 (y1 : Int) 3689348814741910323 = ((y1 &&& 3689348814741910323 : Nat) : Int) := u64_and_nat y1 3689348814741910323 (by omega) (by decide)
  have g2 : IntKind.u64.wrap (((y1 / 4 &&& 3689348814741910323 : Nat) : Int) + ((y1 &&& 3689348814741910323 : Nat) : Int)) = (y2 : Int) := by rw [IntKind.wrap_u64]; omega
  have f5 : bits .and .u64 ((y2 : Int) / 16 + (y2 : Int)) 1085102592571150095 = (y3 : Int) := by have := u64_and_nat (y2 / 16 + y2) 1085102592571150095 (by omega) (by decide); rw [hy3, ← this]; rfl
  have g4 : IntKind.u64.wrap ((y3 : Int) + (y3 : Int) / 256) = (y4 : Int) := by rw [IntKind.wrap_u64]; omega
  have g5 : IntKind.u64.wrap ((y4 : Int) + (y4 : Int) / 65536) = (y5 : Int) := by rw [IntKind.wrap_u64]; omega
  have g6 : IntKind.u64.wrap ((y5 : Int) + (y5 : Int) / 4294967296) = (y6 : Int) := by rw [IntKind.wrap_u64]; omega
  have hb6 : y6 < 9223372036854775808 := by omega
  clear hy1 hy2 hy3 hy4 hy5 hy6
  go_enter Tryd.func75, Tryd.ntmps75
  go_wp2
  rw [i64_and127]
  go_ret
  exact ⟨ret_int (by omega), rfl⟩
end Go.Proofs.YtoodpajbefffhaaDoor
