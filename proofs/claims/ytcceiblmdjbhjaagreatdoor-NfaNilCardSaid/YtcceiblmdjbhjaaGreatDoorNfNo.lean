/- NfaNil: its walk, opened. -/
import Derived.Test.YtcceiblmdjbhjaaGreatDoorNfNi
import Derived.Test.YtcceiblmdjbhjaaGreatDoorFaSn2
import Derived.Test.YtcceiblmdjbhjaaGreatDoorRows
namespace Go.Proofs.YtcceiblmdjbhjaaGreatDoor
open Go.RowKit Go.WideShapes Go.ChangeAt

set_option maxRecDepth 100000 in
theorem nfaNil_open {H : Type} {enc : TypeId × Value → H} {d0 : DataW H} {p0 : List MemPlace} {q : Prop} (W : World) (base : Nat) (v0 : Value)
    (_ : DataW.Trod enc Tryz.prog W 0 (fun _ => true) true 22 v0 d0 p0) (_ : Value.okWide Tryz.prog W .any base 22 v0) (_ : q)
    (hL : laidMetH Tryz.prog Rows.nfaNilRow.laid W) :
    Calls Tryz.prog 5 #[v0] W fun e W' => e = .returned (.bool true) ∧ Below W.heap.size W W' := by
  obtain ⟨s, hs⟩ := snt_of_laid2 (by kernel_rfl) (by kernel_rfl) hL
  refine nnil_any s v0 W hs ⟨hs.var, ?_, Nat.le_refl _⟩ hs.ety
  have a := World.block_lt_of_cell? _ _ (hs.var 21 (by omega) (by omega))
  have b := World.block_lt_of_cell? _ _ hs.ety
  simp at a b
  omega
end Go.Proofs.YtcceiblmdjbhjaaGreatDoor
