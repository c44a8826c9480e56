/- The list of variables, rising by names. -/
import Derived.Test.YthpmkpnndbjflaaGreatDoorKVa
import Derived.Test.YthpmkpnndbjflaaGreatDoorKNu
import Derived.RangeFuncFrom
import Derived.RangeFuncNested
import Derived.RangeFuncBound
import Derived.RangeFuncCalls
import Derived.RangeFuncLeaves
import Derived.Laws.IdiomRangeMap
import Derived.Shelf.Abstract
import Derived.Shelf.RegionOpen
import Derived.WalkKit
import Derived.OwnWalkIn
import Derived.TacticsInMore
import Derived.LoopNIn
import Derived.LoopIn
import Derived.Maps.RangeWalk
import Derived.Sort.KeysCollected
import Derived.RangeFuncKeeps
import Derived.RangeFuncMany
import Derived.Maps.OwnIn
import Derived.Test.YthpmkpnndbjflaaGreatDoorAcRt
import Derived.Test.YthpmkpnndbjflaaGreatDoorShelfG
import Derived.Test.YthpmkpnndbjflaaGreatDoorShelf
import Derived.Sort.Walk0
namespace Go.Proofs.YthpmkpnndbjflaaGreatDoor
open Go.RowKit Go.WideMaps Go.Maps Go.Shelf Go.Sort

set_option maxHeartbeats 2000000 in
/-- A COPY of variables keeps to itself: blocks of its own. -/
theorem copy_any (vb N : Nat) (mo : Option Nat) (l : Vl) (w : World) (hv : VarsAt w vb mo N l) : Calls Tryz.prog 12 #[.pointer (some ⟨vb, 0, none⟩)] w fun e w' => (∃ cb mo', e = .returned (.pointer (some ⟨cb, 0, none⟩)) ∧ w.heap.size ≤ cb ∧ (∀ mb, mo' = some mb → w.heap.size ≤ mb) ∧ VarsAt w' cb mo' N l) ∧ Below w.heap.size w w' := by
  have HV := Lib.hid hv
  obtain ⟨c0, _, hz⟩ := cells1A hv.blk
  clear hv
  cases mo with
  | none =>
    have HC := Lib.hid (show Calls Tryz.prog 42 #[.map none] w _ from Go.Proofs.AnyW.maps_Clone_nil Tryz.lclone w)
    go_enter Tryz.func12, Tryz.ntmps12
    go_wp2_with fail
    refine HC.out.mono ?_
    rintro e w1 ⟨rfl, rfl⟩
    go_wp2_with fail
    go_ret
    exact ⟨⟨_, none, rfl, Nat.le_refl _, fun _ e => (by cases e), last_A _ _, HV.out.ris, HV.out.none, fun _ e => (by cases e)⟩, (Below.refl _ _).alloc (Nat.le_refl _) _⟩
  | some mb =>
    obtain ⟨D, hown, hrep⟩ := HV.out.own mb rfl
    have HC := Lib.hid (show Calls Tryz.prog 42 #[.map (some mb)] w _ from Go.Proofs.AnyW.maps_Clone_owns Tryz.lclone 9 rdV mb N D w hown)
    have HR := Lib.hid hrep
    clear hown hrep
    go_enter Tryz.func12, Tryz.ntmps12
    go_wp2_with fail
    refine HC.out.mono ?_
    rintro e w1 ⟨rfl, hc, _, hb1⟩
    have HB1 := Lib.hid hb1
    have HO := Lib.hid hc
    clear hc hb1
    go_wp2_with fail
    go_ret
    have hsz := HB1.out.size
    refine ⟨⟨_, some w.heap.size, rfl, hsz, fun mb e => (by rw [← Option.some.inj e]; exact Nat.le_refl _), last_A _ _, HV.out.ris, fun e => (by cases e), fun mb' e => ?_⟩, HB1.out.trans ((Below.refl _ _).alloc hsz _)⟩
    obtain rfl := Option.some.inj e
    exact ⟨D, own_same HO.out (Below.heap_alloc _ _ _ HO.out.lt), HR.out⟩
end Go.Proofs.YthpmkpnndbjflaaGreatDoor
