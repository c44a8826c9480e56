/- The statement on the texts of numbers, its call opened. -/
import Derived.Test.YtnpjbpchnkobnaaDoorScRefB
import Derived.Test.YtnpjbpchnkobnaaDoorScBackO
namespace Go.Proofs.YtnpjbpchnkobnaaDoor
open Go.RowKit

set_option maxRecDepth 100000 in
set_option maxHeartbeats 4000000 in
theorem lawTexts_any (n u b : Int) (up : Bool) (w : World) (h0 : -9223372036854775808 ≤ n) (h1 : n ≤ 9223372036854775807) (hu0 : 0 ≤ u) (hu1 : u ≤ 18446744073709551615) (h : TB w) :
    Calls Tryd.prog 3 #[.int .i64 n, .int .u64 u, .int .i64 b, .bool up] w fun e w' => e = .returned (.bool true) ∧ Below w.heap.size w w' := by
  have HT := Lib.hid (text_any n w h0 h1 h)
  have HTB := Lib.hid h
  obtain ⟨q, rfl⟩ : ∃ q : Nat, u = q := ⟨u.toNat, by omega⟩
  have hq : q < 18446744073709551616 := by omega
  clear h
  go_enter Tryd.func3, Tryd.ntmps3
  go_wp2_with fail
  refine HT.out.mono ?_
  rintro e w1 ⟨t, rfl, ht, hb1⟩
  have HB1 := Lib.hid hb1
  clear hb1
  go_wp2_with fail
  refine (reftext_any n _ h0 h1).mono ?_
  rintro e w2 ⟨t', rfl, ht', hb2⟩
  obtain rfl : t' = t := bys_inj (ht'.trans ht.symm)
  have HB2 : Hid (Below w.heap.size w w2) := HB1.out.trans (hb2.mono HB1.out.size)
  have HTB2 := Lib.hid (HTB.out.below HB2.out)
  clear hb2 ht ht'
  by_cases hb : 2 ≤ b ∧ b ≤ 16
  · obtain ⟨bn, rfl⟩ : ∃ bn : Nat, b = bn := ⟨b.toNat, by omega⟩
    have HBA := Lib.hid (base_any q bn up w2 (by omega) (by omega) hq HTB2.out)
    have HRA : Hid (∀ w, _) := Lib.hid (fun w => ref_any q bn up w (by omega) (by omega) hq)
    go_wp2_with fail
    refine HBA.out.mono ?_
    rintro e w3 ⟨s, rfl, hs, hb3⟩
    have HB3 : Hid (Below w.heap.size w w3) := HB2.out.trans (hb3.mono HB2.out.size)
    clear hb3
    go_wp2_with fail
    refine (HRA.out _).mono ?_
    rintro e w4 ⟨s', rfl, hs', hb4⟩
    obtain rfl : s' = s := bys_inj (hs'.trans hs.symm)
    have HB4 : Hid (Below w.heap.size w w4) := HB3.out.trans (hb4.mono HB3.out.size)
    clear hb4 hs hs'
    go_wp2_with fail
    refine (awake_any _).mono ?_; rintro e w5 ⟨rfl, hb5⟩
    have HB5 := Lib.hid (HB4.out.trans (hb5.mono HB4.out.size))
    clear hb5
    go_wp2
    go_ret
    exact ⟨rfl, HB5.out⟩
  · have HNB : Hid (∀ w, _) := Lib.hid (fun w => base_no q b up w hb)
    have HNR : Hid (∀ w, _) := Lib.hid (fun w => ref_no q b up w hb)
    clear hb
    go_wp2_with fail
    refine (HNB.out _).mono ?_
    rintro e w3 ⟨rfl, rfl⟩
    go_wp2_with fail
    refine (HNR.out _).mono ?_
    rintro e w3 ⟨rfl, rfl⟩
    go_wp2_with fail
    refine (awake_any _).mono ?_; rintro e w5 ⟨rfl, hb5⟩
    have HB5 := Lib.hid (HB2.out.trans (hb5.mono HB2.out.size))
    clear hb5
    go_wp2
    go_ret
    exact ⟨rfl, HB5.out⟩

theorem wfu64 {n : Int} (h : (Lit.int .u64 n).wf = true) : 0 ≤ n ∧ n ≤ 18446744073709551615 := by
  simpa [Lit.wf, IntKind.min, IntKind.max, IntKind.signed, IntKind.bits] using h

theorem scanTexts_open {H : Type} {enc : TypeId × Value → H} {d0 d1 d2 d3 : DataW H} {p0 p1 p2 p3 : List MemPlace} {q : Prop} (W : World) (base : Nat) (v0 v1 v2 v3 : Value)
    (h0 : DataW.Trod enc Tryd.prog W 0 (fun _ => true) true 2 v0 d0 p0) (h1 : DataW.Trod enc Tryd.prog W 0 (fun _ => true) true 22 v1 d1 p1) (h2 : DataW.Trod enc Tryd.prog W 0 (fun _ => true) true 3 v2 d2 p2) (h3 : DataW.Trod enc Tryd.prog W 0 (fun _ => true) true 4 v3 d3 p3)
    (k0 : Value.okWide Tryd.prog W .any base 2 v0) (k1 : Value.okWide Tryd.prog W .any base 22 v1) (k2 : Value.okWide Tryd.prog W .any base 3 v2) (k3 : Value.okWide Tryd.prog W .any base 4 v3) (_ : q) (hL : laidMetH Tryd.prog Rows.scanTextsRow.laid W) :
    Calls Tryd.prog 3 #[v0, v1, v2, v3] W fun e W' => e = .returned (.bool true) ∧ Below W.heap.size W W' := by
  obtain ⟨n, rfl, rfl, rfl, wx⟩ := ChangeShapes.open_int Tryd.underlying2 k0 h0
  obtain ⟨u, rfl, rfl, rfl, wu⟩ := ChangeShapes.open_int Tryd.underlying22 k1 h1
  obtain ⟨b, rfl, rfl, rfl, wy⟩ := ChangeShapes.open_int Tryd.underlying3 k2 h2
  obtain ⟨up, rfl, _⟩ := RowKit.open_bool Tryd.underlying4 k3 h3
  have hT : TB W := tb_of_laid (by kernel_rfl) ⟨("math/bits.deBruijn32tab", Rows.laid_math_bits_deBruijn32tab), [("unicode/utf8.acceptRanges", Rows.laid_unicode_utf8_acceptRanges), ("unicode.CaseRanges", Rows.laid_unicode_CaseRanges), ("unicode/utf8.first", Rows.laid_unicode_utf8_first)], by kernel_rfl⟩ hL
  exact lawTexts_any n u b up W (wf64 wx).1 (wf64 wx).2 (wfu64 wu).1 (wfu64 wu).2 hT
end Go.Proofs.YtnpjbpchnkobnaaDoor
