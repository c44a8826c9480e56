/- KSy: several texts in one (kmerge.py). -/
import Derived.Test.YthmgcebonplcgaaGreatDoorSeCtz
import Derived.Test.YthmgcebonplcgaaGreatDoorKSet
import Derived.Shelf.Spec.TrailingZeros
import Derived.Outline
import Derived.OwnWalk
import Derived.Laws.OwnMore
import Derived.Test.YthmgcebonplcgaaGreatDoorKRdr
import Derived.Test.YthmgcebonplcgaaGreatDoorScDigits
import Derived.Lib.SlBytesConst
import Derived.Deep.RegionWith
import Derived.Deep.RegionHeld3
import Derived.Below
import Derived.Laws.Rows
import Derived.Test.YthmgcebonplcgaaGreatDoorKEq
import Derived.Deep.DeepCutAuto
/- The contract of Bytes. -/
namespace Go.Proofs.YthmgcebonplcgaaGreatDoor
open Go.RowKit

/-- The table of trailing noughts lies. -/
def TZ (w : World) : Prop := TabAt 22 Lib.deBruijn64tab w
theorem TZ.below {w w' : World} (h : TZ w) (hb : Below w.heap.size w w') : TZ w' := fun j hj => by
  have hc := h j hj
  have hlt := World.block_lt_of_cell? _ _ hc
  rw [hb.cell (by simpa using hlt)]
  exact hc
set_option maxHeartbeats 2000000 in
theorem tz_core (x k idx : Nat) (w : World) (hx0 : ((x : Int) == 0) = false)
    (key : IntKind.u64.wrap (bits BinOp.and IntKind.u64 (x : Int) (IntKind.u64.wrap (-(x : Int))) * 285870213051353865) / 288230376151711744 = (idx : Int))
    (hi : idx < 64) (hk : k < 64) (hcell : w.cell? ⟨22, idx, none⟩ = some (.int .u8 k)) :
    Calls Tryz.prog 79 #[.int .u64 x] w fun e w' => e = .returned (.int .i64 k) ∧ w' = w := by
  go_enter Tryz.func79, Tryz.ntmps79
  go_wp2_with (simp only [key])
  go_ret
  exact ⟨rfl, rfl⟩
theorem tz_any (x : Nat) (hx : x < 18446744073709551616) (hx0 : x ≠ 0) (w : World) (hT : TZ w) :
    Calls Tryz.prog 79 #[.int .u64 x] w fun e w' => e = .returned (.int .i64 (Lib.ctz 64 x : Nat)) ∧ w' = w := by
  obtain ⟨hlow, hk⟩ := Lib.lowest_bit 64 x hx0 hx
  obtain ⟨hi, htab⟩ := Lib.deBruijn64_at _ hk
  have hcell := hT _ hi
  rw [htab] at hcell
  exact tz_core x _ _ w (by simp; omega) (tz64_key x _ hx hx0 hlow) hi hk hcell
theorem byte_row : (Tryz.prog.info? 5).map (fun i => (i.zero, i.size, i.bytes)) = some (some (.int .u8 0), 1, 1) := by kernel_rfl
end Go.Proofs.YthmgcebonplcgaaGreatDoor
/- What SetMorgan's walk keeps (gen_morgan.py). -/
namespace Go.Proofs.YthmgcebonplcgaaGreatDoor
open Go.RowKit

/-- The others of a set. -/
def notP (p : Nat → Bool) (c : Nat) : Bool := !p c
theorem eq_yesM (p q : Nat → Bool) (h : ∀ c, c < 256 → p c = q c) (w : World) :
    (Op.equalIn 10000 36 (.agg #[.int .u64 (sw p 0 : Nat), .int .u64 (sw p 1 : Nat), .int .u64 (sw p 2 : Nat), .int .u64 (sw p 3 : Nat)]) (.agg #[.int .u64 (sw q 0 : Nat), .int .u64 (sw q 1 : Nat), .int .u64 (sw q 2 : Nat), .int .u64 (sw q 3 : Nat)])).run Tryz.prog w = .ok true w := by
  have e : ∀ i, i < 4 → sw p i = sw q i := fun i hi => wd_congr fun j hj => h _ (by omega)
  rw [eq_arr 9998, e 0 (by omega), e 1 (by omega), e 2 (by omega), e 3 (by omega)]
  simp
theorem slOwnedM {w : World} {base : Nat} {e : TypeId} {v : Value} {n : Nat} {L : List Int} (h : w.ownsRow base e 1 v n (L.map (Value.int .u8))) (hy : Byt L) (hl : L.length ≤ 9223372036854775807) : Sl w v L := by
  obtain ⟨h1, ⟨rfl, rfl⟩ | ⟨g, cap, cur, rfl, _, hb, hc, hm, hs, ht⟩⟩ := h
  · have : L = [] := List.length_eq_zero_iff.1 (by simpa using h1)
    exact ⟨hy, hl, Or.inl ⟨this, none, 0, rfl⟩⟩
  · have hn : L.length = n := by simpa using h1
    refine ⟨hy, hl, Or.inr ⟨g, 0, cap, by rw [hn], by omega, by unfold maxLen at hm; omega, fun i hi => ?_⟩⟩
    rw [Nat.zero_add]
    have e1 : w.cell? ⟨g, i, none⟩ = cur[i]? := by simp [World.cell?, hb]
    have e2 : (cur.toList.take (n * 1))[i]? = (L.map (Value.int .u8))[i]? := by rw [ht]
    rw [List.getElem?_take, if_pos (by omega)] at e2
    rw [e1, ← Array.getElem?_toList, e2]
    simp [List.getD, List.getElem?_eq_getElem hi]
end Go.Proofs.YthmgcebonplcgaaGreatDoor
