/- KQw: several texts in one (kmerge.py). -/
import Derived.Test.YtlkcopjjeknbkaaGreatDoorReO
import Derived.Test.YtlkcopjjeknbkaaGreatDoorReRq
import Derived.Test.YtlkcopjjeknbkaaGreatDoorKPu
/- RetextQuotes: its walk, opened. -/
namespace Go.Proofs.YtlkcopjjeknbkaaGreatDoor
open Go.RowKit

set_option maxRecDepth 100000 in
set_option maxHeartbeats 8000000 in
theorem rquotes_any (cf : ByteArray → (Nat → Bool) × Bool) (hcf : ClassOk cf) (e : Nat → Addr) (s : ByteArray) (ext : Bool) (w : World) (hs : s.size ≤ 1048576) (he : Es w w.heap.size e) (ht : Ety w) (hT : TZ w) (hD : DB w) (hP : TPr w) :
    Calls Tryz.prog 5 #[.string s, .bool ext] w fun x w' => x = .returned (.bool true) ∧ Below w.heap.size w w' := by
  have HAH : Hid (∀ X, Below w.heap.size w X → Calls Tryz.prog 14 #[] X fun x w' => x = .returned (.bool true) ∧ Below X.heap.size X w') := Lib.hid (fun X hX => awake8_any cf hcf e X ⟨(he.below hX).var, Nat.lt_of_lt_of_le he.low hX.size, Nat.le_refl _⟩ (ht.below hX) (hT.below hX) (hD.below hX) (hP.below hX))
  have HQ := Lib.hid (rquote_any s ext w hs)
  have HR : Hid (∀ X, Calls Tryz.prog 22 #[.string s, .bool ext] X fun e w' => e = .returned (.string (ofBys (quoR ext (bys s)))) ∧ Below X.heap.size X w') := Lib.hid (fun X => refq_any s ext X hs)
  clear he ht hT hD hP hcf hs
  generalize ofBys (quoR ext (bys s)) = q at *
  go_enter Tryz.func5, Tryz.ntmps5
  go_wp2_with fail
  refine HQ.out.mono ?_
  rintro x w1 ⟨rfl, hb1⟩
  have HB1 := Lib.hid hb1
  clear hb1
  go_wp2_with fail
  refine (HR.out _).mono ?_
  rintro x w2 ⟨rfl, hb2⟩
  have HB2 := Lib.hid (below_thn HB1.out (Nat.le_refl _) hb2)
  clear hb2
  go_wp2_with fail
  refine (HAH.out _ HB2.out).mono ?_
  rintro x w3 ⟨rfl, hb3⟩
  have HB3 := Lib.hid (below_thn HB2.out (Nat.le_refl _) hb3)
  clear hb3
  go_wp2
  go_ret
  exact ⟨rfl, HB3.out⟩
end Go.Proofs.YtlkcopjjeknbkaaGreatDoor
/- RetextQuotes: opened. -/
namespace Go.Proofs.YtlkcopjjeknbkaaGreatDoor
open Go.RowKit

set_option maxRecDepth 100000 in
theorem retextQuotes_open {H : Type} {enc : TypeId × Value → H} {d0 d1 : DataW H} {p0 p1 : List MemPlace} {q : Prop} (W : World) (base : Nat) (v0 v1 : Value)
    (h0 : DataW.Trod enc Tryz.prog W 0 (fun _ => true) true 9 v0 d0 p0) (h1 : DataW.Trod enc Tryz.prog W 0 (fun _ => true) true 4 v1 d1 p1)
    (k0 : Value.okWide Tryz.prog W .any base 9 v0) (k1 : Value.okWide Tryz.prog W .any base 4 v1) (_ : q)
    (hk : Rows.uptoSmall H [d0, d1] = true) (hL : laidMetH Tryz.prog Rows.retextQuotesUptoRow.laid W) :
    Calls Tryz.prog 5 #[v0, v1] W fun e W' => e = .returned (.bool true) ∧ Below W.heap.size W W' := by
  obtain ⟨s, rfl, rfl, _, _⟩ := Go.ChangeMaps.open_string Tryz.underlying9 k0 h0
  obtain ⟨g, rfl, rfl, _⟩ := RowKit.open_bool Tryz.underlying4 k1 h1
  obtain ⟨e, he, _, ht, hT, hD, hP⟩ := re_of_laid (by kernel_rfl) (by kernel_rfl) (by kernel_rfl) (by kernel_rfl) hL
  obtain ⟨cf, hcf⟩ := classes_ok
  have hb : Rows.uptoBulkAll [DataW.lit (H := H) (.string s.data.toList), DataW.lit (H := H) (.bool g)] ≤ 1048576 := of_decide_eq_true hk
  simp only [Rows.uptoBulkAll, Rows.uptoBulk] at hb
  have hss : s.data.toList.length = s.size := by simp
  exact rquotes_any cf hcf e s g W (by omega) he ht hT hD hP
end Go.Proofs.YtlkcopjjeknbkaaGreatDoor
