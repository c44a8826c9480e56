/- NfaNil: its walk. -/
import Derived.Test.YtcceiblmdjbhjaaGreatDoorNfAw
import Derived.Test.YtcceiblmdjbhjaaGreatDoorKFb
namespace Go.Proofs.YtcceiblmdjbhjaaGreatDoor
open Go.RowKit Go.Extern.Stop Go.Stop Go.Extern

set_option maxRecDepth 100000 in
set_option maxHeartbeats 8000000 in
theorem nnil_any (s : Nat → Addr) (v : Value) (w : World) (hs : Snt w s) (he : Es w w.heap.size s) (ht : Ety w) :
    Calls Tryz.prog 5 #[v] w fun x w' => x = .returned (.bool true) ∧ Below w.heap.size w w' := by
  have HBU := Lib.hid (build_nil s w hs)
  have HTE : Hid (∀ X, Below w.heap.size w X → Calls Tryz.prog 16 #[bot (s 1)] X fun e w' => e = .returned (.agg #[.int .i64 1, .int .i64 0, .int .i64 0]) ∧ Below X.heap.size X w') := Lib.hid (fun X hX => by
    have := tell_any [] (bot (s 1)) (s 1) s 1 X (hs.below hX) ((hs.below hX).rt 1 (by omega) (by omega)) rfl
    simpa [firstOf] using this)
  have HAW : Hid (∀ X, Below w.heap.size w X → Calls Tryz.prog 12 #[] X fun x w' => x = .returned (.bool true) ∧ Below X.heap.size X w') := Lib.hid (fun X hX => awake9_any s X ⟨(he.below hX).var, Nat.lt_of_lt_of_le he.low hX.size, Nat.le_refl _⟩ (ht.below hX))
  unfold bot at HBU HTE
  clear hs he ht
  go_enter Tryz.func5, Tryz.ntmps5
  go_wp2_with fail
  refine HBU.out.mono ?_
  rintro x w1 ⟨rfl, hb1⟩
  have HB1 := Lib.hid hb1
  clear hb1
  go_wp2_with fail
  refine (weightO_nil w1).mono ?_
  rintro x w2 ⟨rfl, hb2⟩
  have HB2 := Lib.hid (HB1.out.trans (hb2.mono HB1.out.size))
  clear hb2
  go_wp2_with fail
  refine (HTE.out w2 HB2.out).mono ?_
  rintro x w3 ⟨rfl, hb3⟩
  have HB3 := Lib.hid (HB2.out.trans (hb3.mono HB2.out.size))
  clear hb3
  go_wp2_with fail
  refine (nstates_nil w3).mono ?_
  rintro x w4 ⟨rfl, rfl⟩
  go_wp2_with fail
  refine (nacc_nil v _).mono ?_
  rintro x w5 ⟨rfl, rfl⟩
  go_wp2_with fail
  refine (HAW.out _ HB3.out).mono ?_
  rintro x w6 ⟨rfl, hb6⟩
  have HB6 := Lib.hid (HB3.out.trans (hb6.mono HB3.out.size))
  clear hb6
  go_wp2
  go_ret
  exact ⟨rfl, HB6.out⟩
end Go.Proofs.YtcceiblmdjbhjaaGreatDoor
