/- GlobQuotes: Pieces, the walk, opened. -/
import Derived.Test.YtopnckfmdjhbjaaGreatDoorGlO
import Derived.Test.YtopnckfmdjhbjaaGreatDoorGlQuo
import Derived.Test.YtopnckfmdjhbjaaGreatDoorScOpen
import Derived.Test.YtopnckfmdjhbjaaGreatDoorRows
import Derived.Lib.SliceRun
namespace Go.Proofs.YtopnckfmdjhbjaaGreatDoor
open Go.RowKit

set_option maxRecDepth 100000 in
set_option maxHeartbeats 8000000 in
/-- A copy of the pieces. -/
theorem pieces_any (B b : Nat) (ps : List Pc) (w : World) (h : PatAt B b ps w) (hl : ps.length ≤ 1048576) :
  Calls Tryz.prog 10 #[.pointer (some ⟨b, 0, none⟩)] w fun x w' => ∃ v, x = .returned v ∧ w'.ownsRow w.heap.size 55 5 v ps.length (cellsL ps) ∧ Below w.heap.size w w' := by
 obtain ⟨hB, v, u, hpb, hrow, hplain⟩ := h
 obtain ⟨i0, z0, hi, hz0, hz1, hz2, hz3⟩ := piece_parts
 obtain ⟨⟨c0, c1⟩, _, hbz⟩ := cells2 hpb
 have q48 : ∀ (w : World) (a : Option Addr) (n c n' c' : Nat), (binOp .eql 28 (.slice a n c) (.slice none n' c')).run Tryz.prog w = .ok (.bool a.isNone) w := fun w a n c n' c' => Lib.run_eql_slice_nil w _ _ a n c n' c' Tryz.underlying28
 have HC : Hid (Calls Tryz.prog 27 #[v] w fun x w' => ∃ v, x = .returned v ∧ w'.ownsRow w.heap.size 55 5 v ps.length (cellsL ps) ∧ Below w.heap.size w w') := by
  rcases hrow.2 with ⟨rfl, h0⟩ | ⟨g, cap, cur, rfl, hgl, hgb, hnc, hcm, hcz, htk⟩
  ·have hp : ps = [] := List.length_eq_zero_iff.1 h0
   subst hp
   clear hrow hplain hpb
   refine Lib.hid ?_
   go_enter Tryz.func27, Tryz.ntmps27
   go_wp2
   go_ret
   exact ⟨_, rfl, World.ownsRow_nil _ _ _ _, Below.refl _ _⟩
  ·have hnews : ∀ j y, (cellsL ps)[j]? = some y → (w.alloc (.cells #[] 55)).cell? ((⟨g, 0, none⟩ : Addr).add j) = some y := fun j y hj => by
    have h1 := (hrow.alloc (.cells #[] 55)).cells (g := g) rfl j y hj
    exact h1
   have hone : ∀ y ∈ cellsL ps, y.oneCell' = true := fun y hy => by
    unfold cellsL at hy
    obtain ⟨x, hx, hyx⟩ := List.mem_flatten.1 hy
    obtain ⟨p, _, rfl⟩ := List.mem_map.1 hx
    exact one5 _ _ _ _ _ y hyx
   have hown0 := World.ownsRow_made (base := w.heap.size) (e := 55) (size := 5) w #[] 0 (Nat.le_refl _) (by unfold maxLen; omega) rfl
   have HN := Lib.hid hnews
   have HON := Lib.hid hone
   have HO0 := Lib.hid hown0
   have hcl := cellsL_len ps
   have HCL := Lib.hid hcl
   clear hrow hplain hpb hnews hone hown0 hgb hcz htk hcl
   refine Lib.hid ?_
   go_enter Tryz.func27, Tryz.ntmps27
   go_wp2_with (at_builtin; refine wpList_append_own _ rfl _ _ 28 rfl w.heap.size 55 i0 z0 5 40 Tryz.underlying28 hi hz0 hz1 hz2 hz3 (by decide) _ _ _ rfl HO0.out ⟨g, 0, none⟩ ps.length cap (cellsL ps) rfl HCL.out HN.out HON.out (by unfold maxLen; omega) (by omega) (by simp) ?_)
   intro v' w4 hown' hgr _
   have HE : Hid (w4.ownsRow w.heap.size 55 5 v' ps.length (cellsL ps) ∧ Below w.heap.size w w4) := Lib.hid ⟨by simpa using hown', ((Below.refl w.heap.size w).alloc (Nat.le_refl _) _).grown hgr (by simp) (fun k hk => (HO0.out.lt k hk).1)⟩
   clear hown' hgr
   go_wp2
   go_ret
   exact ⟨_, rfl, HE.out.1, HE.out.2⟩
 clear hrow hplain hpb
 obtain ⟨vv, hvv⟩ : ∃ vv, vv = v := ⟨_, rfl⟩
 go_enter Tryz.func10, Tryz.ntmps10
 go_wp2_with fail
 refine HC.out.mono ?_
 rintro x w1 ⟨v', rfl, hown, hb1⟩
 have HE : Hid (w1.ownsRow w.heap.size 55 5 v' ps.length (cellsL ps) ∧ Below w.heap.size w w1) := Lib.hid ⟨hown, hb1⟩
 clear hown hb1
 go_wp2
 go_ret
 exact ⟨_, rfl, HE.out.1, HE.out.2⟩
end Go.Proofs.YtopnckfmdjhbjaaGreatDoor
