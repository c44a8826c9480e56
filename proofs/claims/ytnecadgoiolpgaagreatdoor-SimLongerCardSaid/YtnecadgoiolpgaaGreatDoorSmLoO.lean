import Derived.Test.YtnecadgoiolpgaaGreatDoorSmLo
import Derived.Test.YtnecadgoiolpgaaGreatDoorSmO0
import Derived.Test.YtnecadgoiolpgaaGreatDoorSeCxB
namespace Go.Proofs.YtnecadgoiolpgaaGreatDoor
set_option maxRecDepth 100000
open Go.RowKit
theorem sl_nilS {H : Type} {enc : TypeId × Value → H} {W : World} {base : Nat} {v : Value} {d : DataW H} {ps : List MemPlace}
  (hk : Value.okWide Tryz.prog W .any base 22 v) (h : DataW.Trod enc Tryz.prog W 0 (fun _ => true) true 22 v d ps) (n cap : Nat) (e : v = .slice none n cap) : n = 0 ∧ cap = 0 := by
 subst e
 obtain ⟨fuel, hf⟩ := h
 rcases ChangeShapes.open_ints Tryz.underlying22 Tryz.underlying5 (by kernel_rfl) hf with ⟨hcs, _⟩ | ⟨a, len', cap', zs, hcs, _⟩
 ·simp [Value.cells] at hcs
  exact hcs
 ·simp [Value.cells] at hcs
theorem simLonger_open {H : Type} {enc : TypeId × Value → H} {d0 d1 d2 d3 : DataW H} {p0 p1 p2 p3 : List MemPlace} {q : Prop} (W : World) (base : Nat) (v0 v1 v2 v3 : Value)
  (h0 : DataW.Trod enc Tryz.prog W 0 (fun _ => true) true 22 v0 d0 p0) (h1 : DataW.Trod enc Tryz.prog W 0 (fun _ => true) true 4 v1 d1 p1) (h2 : DataW.Trod enc Tryz.prog W 0 (fun _ => true) true 22 v2 d2 p2) (h3 : DataW.Trod enc Tryz.prog W 0 (fun _ => true) true 22 v3 d3 p3)
  (k0 : Value.okWide Tryz.prog W .any base 22 v0) (k1 : Value.okWide Tryz.prog W .any base 4 v1) (k2 : Value.okWide Tryz.prog W .any base 22 v2) (k3 : Value.okWide Tryz.prog W .any base 22 v3) (_ : q)
  (hL : laidMetH Tryz.prog Rows.simLongerRow.laid W) :
  Calls Tryz.prog 7 #[v0, v1, v2, v3] W fun e W' => e = .returned (.bool true) ∧ Below W.heap.size W W' := by
 obtain ⟨l0, hs0, _⟩ := sl_of_w k0 h0
 obtain ⟨g1, rfl, rfl, _⟩ := RowKit.open_bool Tryz.underlying4 k1 h1
 obtain ⟨l2, hs2, _⟩ := sl_of_w k2 h2
 obtain ⟨l3, hs3, _⟩ := sl_of_w k3 h3
 obtain ⟨e, hsn⟩ := snt_of_laid2 (by kernel_rfl) (by kernel_rfl) hL
 have hes := snt_esW hsn
 obtain ⟨cf, hcf⟩ := classes_ok
 exact slonger_any cf hcf e v0 v2 v3 l0 l2 l3 g1 W hsn hes hsn.ety hs0 (okw_blk k0) hs2 hs3 (sl_nilS k2 h2) (sl_nilS k3 h3)
end Go.Proofs.YtnecadgoiolpgaaGreatDoor
