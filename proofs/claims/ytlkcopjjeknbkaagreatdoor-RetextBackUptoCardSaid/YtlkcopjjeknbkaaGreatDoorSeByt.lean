/- The contract of Bytes. -/
import Derived.Test.YtlkcopjjeknbkaaGreatDoorSeCtz
import Derived.Test.YtlkcopjjeknbkaaGreatDoorKSet
import Derived.Shelf.Spec.TrailingZeros
import Derived.Outline
import Derived.OwnWalk
import Derived.Laws.OwnMore
namespace Go.Proofs.YtlkcopjjeknbkaaGreatDoor
open Go.RowKit

/-- The table of trailing noughts lies. -/
def TZ (w : World) : Prop := TabAt 22 Lib.deBruijn64tab w
theorem TZ.below {w w' : World} (h : TZ w) (hb : Below w.heap.size w w') : TZ w' := fun j hj => by
  have hc := h j hj
  have hlt := World.block_lt_of_cell? _ _ hc
  rw [hb.cell (by simpa using hlt)]
  exact hc
set_option maxHeartbeats 2000000 in
theorem tz_core (x k idx : Nat) (w : World) (hx0 : ((x : Int) == 0) = false)
    (key : IntKind.u64.wrap (bits BinOp.and IntKind.u64 (x : Int) (IntKind.u64.wrap (-(x : Int))) * 285870213051353865) / 288230376151711744 = (idx : Int))
    (hi : idx < 64) (hk : k < 64) (hcell : w.cell? ⟨22, idx, none⟩ = some (.int .u8 k)) :
    Calls Tryz.prog 128 #[.int .u64 x] w fun e w' => e = .returned (.int .i64 k) ∧ w' = w := by
  go_enter Tryz.func128, Tryz.ntmps128
  go_wp2_with (simp only [key])
  go_ret
  exact ⟨rfl, rfl⟩
theorem tz_any (x : Nat) (hx : x < 18446744073709551616) (hx0 : x ≠ 0) (w : World) (hT : TZ w) :
    Calls Tryz.prog 128 #[.int .u64 x] w fun e w' => e = .returned (.int .i64 (Lib.ctz 64 x : Nat)) ∧ w' = w := by
  obtain ⟨hlow, hk⟩ := Lib.lowest_bit 64 x hx0 hx
  obtain ⟨hi, htab⟩ := Lib.deBruijn64_at _ hk
  have hcell := hT _ hi
  rw [htab] at hcell
  exact tz_core x _ _ w (by simp; omega) (tz64_key x _ hx hx0 hlow) hi hk hcell
theorem byte_row : (Tryz.prog.info? 5).map (fun i => (i.zero, i.size, i.bytes)) = some (some (.int .u8 0), 1, 1) := by kernel_rfl
end Go.Proofs.YtlkcopjjeknbkaaGreatDoor
