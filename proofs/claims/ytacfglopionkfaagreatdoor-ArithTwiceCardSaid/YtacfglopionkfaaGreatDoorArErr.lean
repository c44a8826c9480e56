import Derived.Test.YtacfglopionkfaaGreatDoorKFa
import Derived.Test.YtacfglopionkfaaGreatDoorArTokAt
namespace Go.Proofs.YtacfglopionkfaaGreatDoor
open Go.RowKit
structure Er (w:World) (s:Nat→Addr):Prop where
 var: ∀k,1≤k→k≤21→w.cell? ⟨k - 1,0,none⟩=some (.iface 276 (.pointer (some (s k))))
 low:21<w.heap.size
theorem Er.below {w w':World} {s:Nat→Addr} (h:Er w s) (hb:Below w.heap.size w w'):Er w' s where
 var k h1 h2:=by rw [hb.cell (by have:=h.low;simp;omega)];exact h.var k h1 h2
 low:=Nat.lt_of_lt_of_le h.low hb.size
set_option maxHeartbeats 4000000 in
theorem L6 (s:Nat→Addr) (w:World) (hs:Er w s) (k:Nat) (h:k=2∨k=3∨k=6):
  Calls Tryz.prog 71 #[.int .i64 k] w fun e w'=>e= .returned (bot (s k))∧w=w':=by
 have hv:=hs.var k (by omega) (by omega)
 have HS:=Lib.hid hs
 clear hs
 unfold bot
 rcases h with rfl | rfl | rfl
 all_goals
  try simp only [Nat.reduceSub] at hv
  go_enter Tryz.func71,Tryz.ntmps71
  go_wp2
  go_ret
  exact ⟨rfl,rfl⟩
theorem yZ (vt:TypeId) (vv:Value) (n:Int) (w:World):
  Calls Tryz.prog 70 #[.iface vt vv,.int .i64 n] w fun e w'=>e= .returned (.iface 84 (.pointer (some ⟨w.heap.size,0,none⟩)))∧w'=w.alloc (.cells #[.iface vt vv,.int .i64 n] 88):=by
 go_enter Tryz.func70,Tryz.ntmps70
 go_wp2
 go_ret
 exact ⟨rfl,rfl⟩
theorem yY (vt:TypeId) (vv:Value) (n:Int) (w:World):
  Calls Tryz.prog 69 #[.iface vt vv,.int .i64 n] w fun e w'=>e= .returned (.iface 89 (.pointer (some ⟨w.heap.size,0,none⟩)))∧w'=w.alloc (.cells #[.iface vt vv,.int .i64 n] 93):=by
 go_enter Tryz.func69,Tryz.ntmps69
 go_wp2
 go_ret
 exact ⟨rfl,rfl⟩
def ErrAt (w:World) (s:Nat→Addr) (c:Nat) (p:Nat) (v:Value):Prop:=kJ w [(true,1),(false,(p:Int))] v (bot (s c))
set_option maxHeartbeats 4000000 in
theorem lI (s:Nat→Addr) (w:World) (hs:Er w s) (c p:Nat) (h:c=2∨c=3∨c=6):
  Calls Tryz.prog 37 #[.int .i64 c,.int .i64 p] w fun e w'=>(e= .returned (.iface 89 (.pointer (some ⟨w.heap.size+1,0,none⟩)))∧
   ErrAt w' s c p (.iface 89 (.pointer (some ⟨w.heap.size+1,0,none⟩))))∧Below w.heap.size w w':=by
 have HO:=Lib.hid (L6 s w hs c h)
 unfold bot at HO
 clear h hs
 go_enter Tryz.func37,Tryz.ntmps37
 go_wp2_with (first | (go_at_call 71;refine HO.out.mono ?_;rintro e w' ⟨rfl,rfl⟩) | (go_at_call 70;refine (yZ _ _ _ _).mono ?_;rintro e w' ⟨rfl,rfl⟩) | (go_at_call 69;refine (yY _ _ _ _).mono ?_;rintro e w' ⟨rfl,rfl⟩))
 go_ret
 refine ⟨⟨rfl,?_⟩,((Below.refl _ _).alloc (Nat.le_refl _) _).alloc (by simp) _⟩
 refine ⟨w.heap.size+1,_,rfl,?_,w.heap.size,_,rfl,?_,rfl⟩
 ·show ((w.heap.push _).push _)[w.heap.size+1]? =_
  rw [Array.getElem?_push,if_pos (by simp)]
  rfl
 ·show ((w.heap.push _).push _)[w.heap.size]? =_
  rw [Array.getElem?_push,if_neg (by simp),Array.getElem?_push,if_pos rfl]
  rfl
end Go.Proofs.YtacfglopionkfaaGreatDoor
