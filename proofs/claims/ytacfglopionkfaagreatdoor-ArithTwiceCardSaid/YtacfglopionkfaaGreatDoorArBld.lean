import Derived.Test.YtacfglopionkfaaGreatDoorProg
import Derived.Lib.Hide
import Derived.WalkKit
import Derived.Lib.Builder
import Derived.Lib.UnsafeStr
namespace Go.Proofs.YtacfglopionkfaaGreatDoor
open Go.RowKit
def Qp (b:Nat) (w w':World):Prop:= ∀k cs T z,w.heap[k]? =some (.cells cs T z)→T≠5→k≠b→w'.heap[k]? =some (.cells cs T z)
theorem Qp.refl (b:Nat) (w:World):Qp b w w:=fun _ _ _ _ h _ _=>h
theorem Qp.trans {b:Nat} {w w1 w2:World} (h:Qp b w w1) (h':Qp b w1 w2):Qp b w w2:=fun k cs T z hk hT hb=>h' k cs T z (h k cs T z hk hT hb) hT hb
theorem Qp.set {b:Nat} {w w':World} (h:Qp b w w') (o:Nat) (v:Value):Qp b w (w'.setCell ⟨b,o,none⟩ v):=fun k cs T z hk hT hb=>(Below.heap_setCell _ _ _ _ hb).trans (h k cs T z hk hT hb)
theorem Gx {w:World} {b:Nat} {o:Obj} (h:w.heap[b]? =some o):b<w.heap.size:=by
 rcases Nat.lt_or_ge b w.heap.size with h' | h'
 ·exact h'
 ·simp [Array.getElem?_eq_none h'] at h
theorem Qp.below {b:Nat} {w w':World} (h:Below w.heap.size w w'):Qp b w w':=fun k _ _ _ hk _ _=>(h.block k (Gx hk)).trans hk
end Go.Proofs.YtacfglopionkfaaGreatDoor
