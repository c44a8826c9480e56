/- The statement on noughts ahead of a number, its call opened. -/
import Derived.Test.YtnpjbpchnkobnaaDoorScNoug
namespace Go.Proofs.YtnpjbpchnkobnaaDoor
open Go.RowKit

set_option maxRecDepth 100000 in
set_option maxHeartbeats 4000000 in
theorem lawNoughts_any (n b z : Int) (v : Value) (l : List Int) (w : World) (h0 : 0 ≤ n) (h1 : n ≤ 18446744073709551615) (hs : Sl w v l) (hl : l.length ≤ 140737488351232) (h : TB w) :
    Calls Tryd.prog 5 #[.int .u64 n, .int .i64 b, .int .i64 z, v] w fun e w' => e = .returned (.bool true) ∧ Below w.heap.size w w' := by
  by_cases hb : 2 ≤ b ∧ b ≤ 16
  · obtain ⟨hbl, hbh⟩ := hb
    obtain ⟨bn, rfl⟩ : ∃ bn : Nat, b = bn := ⟨b.toNat, by omega⟩
    have HTB := Lib.hid h
    have HS := Lib.hid hs
    clear h hs
    have hm1 : -29 ≤ z.tmod 30 := by have := Int.tmod_lt_of_pos (-z) (show (0 : Int) < 30 by omega); rw [Int.neg_tmod] at this; omega
    have hm2 : z.tmod 30 ≤ 29 := by have := Int.tmod_lt_of_pos z (show (0 : Int) < 30 by omega); omega
    have hz0 : 0 ≤ n / 2 := by omega
    go_enter Tryd.func5, Tryd.ntmps5
    go_wp2_with fail
    obtain ⟨k, hk⟩ : ∃ k : Nat, n / 2 = k := ⟨(n / 2).toNat, by omega⟩
    obtain ⟨m, hm⟩ : ∃ m : Nat, z.tmod 30 % 30 = m := ⟨(z.tmod 30 % 30).toNat, by omega⟩
    have hm29 : m ≤ 29 := by omega
    have hkb : k < 9223372036854775808 := by omega
    rw [hk, hm]
    have HDL := Lib.hid (digs_len bn (by omega) 64 k (by omega) (Nat.lt_of_lt_of_le (show k < 2 ^ 64 by omega) (Nat.pow_le_pow_left (show 2 ≤ bn by omega) 64)))
    have HDG := Lib.hid (baseL_dig bn k false (by omega) (by omega))
    have HNR : Hid (∀ t, _) := Lib.hid (fun t => noughts_read bn k m t (by omega) (by omega) hkb)
    have HHX := Lib.hid (hex_read k hkb)
    have HHL := Lib.hid (digs_len 16 (by omega) 64 k (by omega) (Nat.lt_of_lt_of_le (show k < 2 ^ 64 by omega) (Nat.pow_le_pow_left (show 2 ≤ 16 by omega) 64)))
    have hkI : (k : Int) ≤ 9223372036854775807 := by omega
    have hmI : (m : Int) ≤ 29 := by omega
    clear hk hm hm1 hm2 hz0 h0 h1
    refine (base_any k bn false _ (by omega) (by omega) (by omega) HTB.out).mono ?_
    rintro e w1 ⟨s, rfl, hs, hb1⟩
    have hs' : bys s = digs bn k := hs
    have HB1 := Lib.hid hb1
    have hsz : s.size = (digs bn k).length := by rw [← bys_length, hs']
    have hsz64 : s.size ≤ 64 := by have := HDL.out; omega
    obtain ⟨cap, w2, hconv, hsl, hb2⟩ := conv_sl w1 s (by omega)
    rw [hs] at hsl
    have hdd := digits_any _ _ bn w2 hsl
    rw [HDG.out.1, HDG.out.2.1, HDG.out.2.2, ← hsz] at hdd
    have hcut : cut 9223372036854775807 k = k := by unfold cut; rw [if_pos (by omega)]
    have hovr : ovr 9223372036854775807 k = false := by unfold ovr; simp; omega
    rw [hcut, hovr] at hdd
    have HDD := Lib.hid hdd
    have HB2 : Hid (Below w.heap.size w w2) := HB1.out.trans (hb2.mono HB1.out.size)
    have HSY := Lib.hid hs'
    have HSZ := Lib.hid hsz
    clear hs hs' hb1 hb2 hsl hdd hcut hovr hsz
    go_wp2_with fail
    refine HDD.out.mono ?_
    rintro e w3 ⟨rfl, rfl⟩
    clear hconv
    go_wp2_with fail
    have HSV : Hid (Sl w2 v l) := HS.out.old fun i hi => HB2.out.block i hi
    have hcs := conv_string HSV.out
    go_loop [13, 45] (fun t i => ∃ (j : Nat) (st : ByteArray), t = .string st ∧ i = .int .i64 j ∧ j ≤ m ∧ bys st = List.replicate j 48) (fun _ i => m - (intOf i).toNat)
    case atStart => exact ⟨0, ⟨#[]⟩, rfl, rfl, Nat.zero_le _, rfl⟩
    case round =>
      obtain ⟨j, st, rfl, rfl, hjm, hst⟩ := hrel
      have hsts : st.size = j := by rw [← bys_length, hst]; simp
      by_cases hj : j < m
      · have HN : Hid (bys (st ++ (⟨#[48]⟩ : ByteArray)) = List.replicate (j + 1) 48) := Lib.hid (by rw [bys_app, hst, List.replicate_succ']; rfl)
        have hjI : (j : Int) < m := by omega
        have hst30 : st.size ≤ 30 := by omega
        clear hst
        go_wp2
        go_round
        case rel => exact ⟨j + 1, _, rfl, by go_num, by omega, HN.out⟩
        case measure => simp [intOf]; omega
      · obtain rfl : j = m := by omega
        have hjI : ¬ (j : Int) < j := by omega
        have hlz : (ofBys l).size = l.length := ofBys_size l
        have HLB := Lib.hid (bys_ofBys HS.out.1)
        have hall : bys (st ++ s ++ (⟨#[122]⟩ : ByteArray) ++ ofBys l) = List.replicate j 48 ++ digs bn k ++ 122 :: l := by
          rw [bys_app, bys_app, bys_app, hst, HSY.out, HLB.out]
          show List.replicate j 48 ++ digs bn k ++ [122] ++ l = _
          simp
        have hst30 : st.size ≤ 30 := by omega
        have hsize : (st ++ s ++ (⟨#[122]⟩ : ByteArray) ++ ofBys l).size = j + s.size + 1 + l.length := by
          rw [← bys_length, hall]
          simp only [List.length_append, List.length_replicate, List.length_cons]
          have := HSZ.out
          omega
        have hbig : (st ++ s ++ (⟨#[122]⟩ : ByteArray) ++ ofBys l).size ≤ 9223372036854775807 := by omega
        obtain ⟨cap2, w4, hconv2, hsl2, hb4⟩ := conv_sl w2 _ hbig
        rw [hall, hsize] at hsl2
        have hdd2 := digits_any _ _ bn w4 hsl2
        rw [(HNR.out l).1, (HNR.out l).2.1, (HNR.out l).2.2, ← HSZ.out] at hdd2
        have HD2 := Lib.hid hdd2
        have HB4 : Hid (Below w.heap.size w w4) := HB2.out.trans (hb4.mono HB2.out.size)
        clear hst hsl2 hdd2 hb4 hall hsize
        go_wp2_with fail
        refine HD2.out.mono ?_
        rintro e w5 ⟨rfl, rfl⟩
        clear hconv2 hcs hbig
        go_wp2_with fail
        refine (base_any k 16 true _ (by omega) (by omega) (by omega) (HTB.out.below HB4.out)).mono ?_
        rintro e w5 ⟨x, rfl, hx, hb5⟩
        have HB5 : Hid (Below w.heap.size w w5) := HB4.out.trans (hb5.mono HB4.out.size)
        have hxs : x.size ≤ 64 := by
          have h1 := HHL.out
          rw [← bys_length, hx, baseL_len]
          exact h1
        have hall : bys ((⟨#[48, 120]⟩ : ByteArray) ++ x ++ (⟨#[33]⟩ : ByteArray)) = 48 :: 120 :: (baseL 16 k true ++ [33]) := by
          rw [bys_app, bys_app, hx]
          rfl
        have hsize : ((⟨#[48, 120]⟩ : ByteArray) ++ x ++ (⟨#[33]⟩ : ByteArray)).size = 2 + x.size + 1 := by
          rw [← bys_length, bys_app, bys_app, List.length_append, List.length_append, bys_length x]
          rfl
        obtain ⟨cap3, w6, hconv3, hsl3, hb6⟩ := conv_sl w5 ((⟨#[48, 120]⟩ : ByteArray) ++ x ++ (⟨#[33]⟩ : ByteArray)) (by omega)
        rw [hall, hsize] at hsl3
        have hdd3 := const_any _ _ w6 hsl3
        rw [HHX.out.1, HHX.out.2.1, HHX.out.2.2] at hdd3
        have HD3 := Lib.hid hdd3
        have HB6 : Hid (Below w.heap.size w w6) := HB5.out.trans (hb6.mono HB5.out.size)
        clear hb5 hb6 hsl3 hdd3 hall hsize hx
        go_wp2_with fail
        refine HD3.out.mono ?_
        rintro e w7 ⟨rfl, rfl⟩
        clear hconv3
        have hwk : IntKind.u64.wrap (k : Int) = k := by
          unfold IntKind.wrap
          simp [IntKind.signed, IntKind.bits]
          omega
        have hcomm : (s.size : Int) + j = j + s.size := Int.add_comm _ _
        have hhl : (digs 16 k).length ≤ 64 := HHL.out
        generalize hg : (digs 16 k).length = g at *
        have HG := Lib.hid hg
        clear hg
        go_wp2_with fail
        refine (base_any k 16 false _ (by omega) (by omega) (by omega) (HTB.out.below HB6.out)).mono ?_
        rintro e w8 ⟨y, rfl, hy, hb8⟩
        have hyl : y.size = g := by rw [← bys_length, hy, ← HG.out]; rfl
        have HB8 : Hid (Below w.heap.size w w8) := HB6.out.trans (hb8.mono HB6.out.size)
        clear hy hb8
        go_wp2_with fail
        refine (awake_any _).mono ?_; rintro e w9 ⟨rfl, hb9⟩
        have HB9 := Lib.hid (HB8.out.trans (hb9.mono HB8.out.size))
        clear hb9
        go_wp2
        go_ret
        exact ⟨rfl, HB9.out⟩
  · rcases (by omega : b < 2 ∨ (2 ≤ b ∧ 16 < b)) with hb' | ⟨hb', hb''⟩
    all_goals
      go_enter Tryd.func5, Tryd.ntmps5
      go_wp2_with fail
      refine (awake_any _).mono ?_; rintro e w5 ⟨rfl, hb5⟩
      go_wp2
      go_ret
      exact ⟨rfl, hb5⟩

theorem scanNoughts_open {H : Type} {enc : TypeId × Value → H} {d0 d1 d2 d3 : DataW H} {p0 p1 p2 p3 : List MemPlace} (W : World) (base : Nat) (v0 v1 v2 v3 : Value)
    (h0 : DataW.Trod enc Tryd.prog W 0 (fun _ => true) true 22 v0 d0 p0) (h1 : DataW.Trod enc Tryd.prog W 0 (fun _ => true) true 3 v1 d1 p1) (h2 : DataW.Trod enc Tryd.prog W 0 (fun _ => true) true 3 v2 d2 p2) (h3 : DataW.Trod enc Tryd.prog W 0 (fun _ => true) true 31 v3 d3 p3)
    (k0 : Value.okWide Tryd.prog W .any base 22 v0) (k1 : Value.okWide Tryd.prog W .any base 3 v1) (k2 : Value.okWide Tryd.prog W .any base 3 v2) (k3 : Value.okWide Tryd.prog W .any base 31 v3)
    (hsz : (DataW.weightsEach Tryd.prog ([22, 3, 3, 31] ++ Rows.scanNoughtsSpec.plain.varTypes Tryd.prog) ([d0, d1, d2, d3] ++ [])).all (· ≤ reachBytes) = true) (hL : laidMetH Tryd.prog Rows.scanNoughtsRow.laid W) :
    Calls Tryd.prog 5 #[v0, v1, v2, v3] W fun e W' => e = .returned (.bool true) ∧ Below W.heap.size W W' := by
  obtain ⟨l, hs, hw⟩ := sl_of_w k3 h3
  have hl := hw _ _ 3 hsz rfl rfl
  obtain ⟨n, rfl, rfl, rfl, wx⟩ := ChangeShapes.open_int Tryd.underlying22 k0 h0
  obtain ⟨b, rfl, rfl, rfl, wy⟩ := ChangeShapes.open_int Tryd.underlying3 k1 h1
  obtain ⟨z, rfl, rfl, rfl, wz⟩ := ChangeShapes.open_int Tryd.underlying3 k2 h2
  have hT : TB W := tb_of_laid (by kernel_rfl) ⟨("math/bits.deBruijn32tab", Rows.laid_math_bits_deBruijn32tab), [("unicode/utf8.acceptRanges", Rows.laid_unicode_utf8_acceptRanges), ("unicode.CaseRanges", Rows.laid_unicode_CaseRanges), ("unicode/utf8.first", Rows.laid_unicode_utf8_first)], by kernel_rfl⟩ hL
  have wn : 0 ≤ n ∧ n ≤ 18446744073709551615 := by
    simpa [Lit.wf, IntKind.min, IntKind.max, IntKind.signed, IntKind.bits] using wx
  exact lawNoughts_any n b z v3 l W wn.1 wn.2 hs hl hT
end Go.Proofs.YtnpjbpchnkobnaaDoor
