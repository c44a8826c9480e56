/- The walk of the statement on digits. -/
import Derived.Test.YtnpjbpchnkobnaaScAwake
import Derived.Test.YtnpjbpchnkobnaaScOpen
namespace Go.Proofs.Ytnpjbpchnkobnaa
open Go.RowKit

set_option maxRecDepth 100000 in
set_option maxHeartbeats 4000000 in
theorem lawDigits_any (v : Value) (l : List Int) (base : Int) (w : World) (hs : Sl w v l) :
    Calls Try.prog 4 #[v, .int .i64 base] w fun e w' => e = .returned (.bool true) ∧ Below w.heap.size w w' := by
  have H1 := Lib.hid (digits_any v l base w hs)
  have H2 := Lib.hid (refDigits_any v l base w hs)
  have H3 := Lib.hid (const_any v l w hs)
  have H4 := Lib.hid (refConst_any v l w hs)
  generalize gV base l = x1 at *
  generalize gN base l = x2 at *
  generalize gO base l = x3 at *
  generalize cV l = y1 at *
  generalize cN l = y2 at *
  generalize cO l = y3 at *
  clear hs
  go_enter Try.func4, Try.ntmps4
  go_wp2_with fail
  refine H1.out.mono ?_; rintro e w' ⟨rfl, rfl⟩
  go_wp2_with fail
  refine H2.out.mono ?_; rintro e w' ⟨rfl, rfl⟩
  go_wp2_with fail
  refine H3.out.mono ?_; rintro e w' ⟨rfl, rfl⟩
  go_wp2_with fail
  refine H4.out.mono ?_; rintro e w' ⟨rfl, rfl⟩
  go_wp2_with fail
  refine (awake_any _).mono ?_; rintro e w' ⟨rfl, hb⟩
  go_wp2
  go_ret
  exact ⟨rfl, hb⟩

theorem scanDigits_open {H : Type} {enc : TypeId × Value → H} {d0 d1 : DataW H} {p0 p1 : List MemPlace} {q : Prop} (W : World) (base : Nat) (v0 v1 : Value)
    (h0 : DataW.Trod enc Try.prog W 0 (fun _ => true) true 22 v0 d0 p0) (h1 : DataW.Trod enc Try.prog W 0 (fun _ => true) true 3 v1 d1 p1)
    (k0 : Value.okWide Try.prog W .any base 22 v0) (k1 : Value.okWide Try.prog W .any base 3 v1) (_ : q) :
    Calls Try.prog 4 #[v0, v1] W fun e W' => e = .returned (.bool true) ∧ Below W.heap.size W W' := by
  obtain ⟨l, hs⟩ := sl_of k0 h0
  obtain ⟨x, rfl, rfl, rfl, _⟩ := ChangeShapes.open_int Try.underlying3 k1 h1
  exact lawDigits_any v0 l x W hs
end Go.Proofs.Ytnpjbpchnkobnaa
