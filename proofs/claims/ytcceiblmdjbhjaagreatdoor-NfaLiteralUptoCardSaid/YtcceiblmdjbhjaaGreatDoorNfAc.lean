/- Accepts; States. -/
import Derived.Test.YtcceiblmdjbhjaaGreatDoorKNs
import Derived.Test.YtcceiblmdjbhjaaGreatDoorScDigits
import Derived.ChangeSlices
import Derived.ProofKit
import Derived.Deep.Slices
import Derived.Below
import Derived.SizedLaws
namespace Go.Proofs.YtcceiblmdjbhjaaGreatDoor
open Go.RowKit

/-- The two sets on the way through the text. -/
structure AccI (B gb n s1 i1 s2 i2 : Nat) (L1 : List Nat) (k : Nat) (X : World) : Prop where
  a : ∃ v1 n1 v2 n2 L2, SetAt B gb s1 i1 n L1 n1 v1 X ∧ SetAt B gb s2 i2 n L2 n2 v2 X ∧ Apart s1 i1 v1 s2 i2 v2 ∧ n1 ≤ k + 1 ∧ n2 ≤ k + 1

set_option maxRecDepth 100000 in
set_option maxHeartbeats 16000000 in
theorem nacc_any (B' gb st : Nat) (g : List St) (v : Value) (l : List Int) (w : World) (hcl : ClG g) (hn6 : g.length ≤ 1000000) (hg : GrAt B' gb g st w) (hst : st < g.length) (hs : Sl w v l) (hl : l.length ≤ 1099511627000) :
    Calls Tryz.prog 21 #[.pointer (some ⟨gb, 0, none⟩), v] w fun r w' => r = .returned (.bool (accF (g, st) l)) ∧ Below w.heap.size w w' := by
  obtain ⟨R, hR⟩ : ∃ R, R = runF g l.length 0 (addF g true (decide (0 = l.length)) (g.length + 1) st []) l := ⟨_, rfl⟩
  have HRES : Hid (accF (g, st) l = R.contains 0) := Lib.hid (by rw [hR]; rfl)
  obtain ⟨n, hn⟩ : ∃ n, n = g.length := ⟨_, rfl⟩
  have hl0 : ¬ n = 0 := by omega
  have hl0b : ((n : Int) == 0) = false := by simp; omega
  obtain ⟨va, vc, hvv⟩ : ∃ a c, v = .slice a l.length c := by
    obtain ⟨_, _, ⟨rfl, a, cap, rfl⟩ | ⟨b, o, cap, rfl, _⟩⟩ := hs
    · exact ⟨a, cap, rfl⟩
    · exact ⟨_, cap, rfl⟩
  have HLEN := Lib.hid (glen_any B' gb st g w hg)
  have HNS1 := Lib.hid (newSet_any B' gb st g w hg hn6)
  rw [← hn] at HLEN HNS1
  have HG := Lib.hid hg
  have HS := Lib.hid hs
  have HCL := Lib.hid hcl
  have HN := Lib.hid hn
  have HRE := Lib.hid hR
  have hst' : st < n := by omega
  have hn6' : n ≤ 1000000 := by omega
  subst hvv
  rw [← hn] at hR
  clear hg hs hcl hR hst hn6
  go_enter Tryz.func21, Tryz.ntmps21
  go_wp2_with fail
  refine (graph_any _ w).mono ?_
  rintro r w1 ⟨rfl, rfl⟩
  go_wp2_with fail
  refine HLEN.out.mono ?_
  rintro r w1 ⟨rfl, rfl⟩
  go_wp2_with fail
  refine HNS1.out.mono ?_
  rintro r W1 ⟨rfl, hs1, hb1⟩
  have HS1 := Lib.hid hs1
  have HB1 := Lib.hid hb1
  have HG1 := Lib.hid (HG.out.below hb1)
  have HNS2 := Lib.hid (newSet_any B' gb st g W1 HG1.out (by have := HN.out; omega))
  rw [← HN.out] at HNS2
  clear hs1 hb1 HLEN HNS1
  go_wp2_with fail
  refine HNS2.out.mono ?_
  rintro r W2 ⟨rfl, hs2, hb2⟩
  have HS2 : Hid (SetAt w1.heap.size gb (W1.heap.size + 1) W1.heap.size n [] 1 nilS W2) := Lib.hid ⟨hs2.blk, World.ownsRow_nil _ _ _ _, hs2.ne, hs2.mks, ⟨by have := HB1.out.size; omega, HB1.out.size⟩, hs2.un, hs2.now1⟩
  have HS12 := Lib.hid (HS1.out.below hb2)
  have HB2 : Hid (Below w1.heap.size w1 W2) := Lib.hid (HB1.out.trans (hb2.mono HB1.out.size))
  have HG2 := Lib.hid (HG1.out.below hb2)
  have hz1 : w1.heap.size + 1 < W1.heap.size := lt_blkB HS1.out.blk
  clear hs2 hb2 HNS2
  obtain ⟨pe0, hpe⟩ : ∃ b, b = decide (0 = l.length) := ⟨_, rfl⟩
  rw [← hpe] at HRE
  have HPL := Lib.hid (place_of 0 l.length W2)
  rw [← hpe] at HPL
  have HPL0 : Hid (Calls Tryz.prog 47 #[.int .i64 0, .int .i64 (l.length : Nat)] W2 fun r w' => r = .returned (.agg #[.bool true, .bool pe0]) ∧ Below W2.heap.size W2 w') := Lib.hid HPL.out
  clear hpe HPL
  go_wp2_with fail
  refine HPL0.out.mono ?_
  rintro r W3 ⟨rfl, hb3⟩
  have HS13 := Lib.hid (HS12.out.below hb3)
  have HS23 := Lib.hid (HS2.out.below hb3)
  have HG3 := Lib.hid (HG2.out.below hb3)
  have HB3 : Hid (Below w1.heap.size w1 W3) := Lib.hid (HB2.out.trans (hb3.mono HB2.out.size))
  have HEN := Lib.hid (enter_any w1.heap.size B' gb st (w1.heap.size + 1) w1.heap.size n 1 g [] nilS true pe0 W3 HN.out HCL.out hn6' HG3.out HS13.out HB3.out.size hst')
  clear hb3 HPL0
  go_wp2_with fail
  refine HEN.out.mono ?_
  rintro r W4 ⟨rfl, v1, hs4, hc4⟩
  have hap : Apart (w1.heap.size + 1) w1.heap.size nilS (W1.heap.size + 1) W1.heap.size nilS := ⟨by omega, by omega, fun e => (by cases e), fun e => (by cases e), fun b e => (by cases e)⟩
  obtain ⟨hs24, hap4⟩ := HS23.out.other HS13.out hc4 hap
  have hadd := addF_any HCL.out true pe0 (n + 1) st [] (by rw [unm_nil, ← HN.out]; omega) (by rw [← HN.out]; exact hst')
  have HI4 : Hid (AccI w1.heap.size gb n (w1.heap.size + 1) w1.heap.size (W1.heap.size + 1) W1.heap.size (addF g true pe0 (n + 1) st []) 0 W4) := Lib.hid ⟨v1, 1, nilS, 1, [], hs4, hs24, hap4, Nat.le_refl _, Nat.le_refl _⟩
  have HR4 : Hid (runF g l.length 0 (addF g true pe0 (n + 1) st []) (l.drop 0) = R ∧ ∀ y ∈ addF g true pe0 (n + 1) st [], y < n) := Lib.hid ⟨by rw [HRE.out, HN.out]; rfl, by have := hadd.lt (fun y hy => by cases hy); rw [← HN.out] at this; exact this⟩
  have HW4 : Hid (GrAt B' gb g st W4 ∧ Below w1.heap.size w1 W4) := Lib.hid ⟨HG3.out.chS hc4 HS13.out, HB3.out.trans hc4.bel⟩
  clear hs4 hc4 hap hs24 hap4 hadd HEN HS13 HS23 HS12 HS2 HS1 HG1 HG2 HG3 HB1 HB2 HB3 hz1 HRE
  generalize addF g true pe0 (n + 1) st [] = L0 at *
  go_upto_region 7 with fail
  go_loopg [6, 7, 26] l.length (fun gh s6 s7 s26 X => ∃ (k a1 i1 a2 i2 : Nat) (L1 : List Nat), gh = l.length - k ∧ k ≤ l.length ∧ s6 = .pointer (some ⟨a1, 0, none⟩) ∧ s7 = .pointer (some ⟨a2, 0, none⟩) ∧ s26 = .int .i64 (k : Nat) ∧ Aside (AccI w1.heap.size gb n a1 i1 a2 i2 L1 k X) ∧ Aside (runF g l.length k L1 (l.drop k) = R ∧ ∀ y ∈ L1, y < n) ∧ Aside (GrAt B' gb g st X ∧ Below w1.heap.size w1 X))
  case atStart => exact ⟨0, _, _, _, _, L0, by omega, Nat.zero_le _, rfl, rfl, rfl, HI4.out, HR4.out, HW4.out⟩
  case round =>
    obtain ⟨k, a1, i1, a2, i2, L1, hgh, hk, rfl, rfl, rfl, hi, hr, hw⟩ := hrel
    have HI := Lib.hid hi.out
    have HR := Lib.hid hr.out
    have HWX := Lib.hid hw.out
    have HGH := Lib.hid hgh
    clear hi hr hw hgh HI4 HR4 HW4
    by_cases hlt : k < l.length
    · have hlti : (k : Int) < (l.length : Int) := by omega
      have hk0 : (0 : Int) ≤ (k : Int) := by omega
      have hsl := HS.out.below HWX.out.2
      obtain ⟨hby, _, ⟨e, _⟩ | ⟨lb, lo, lc, hle, hcap, hcm, hrow⟩⟩ := hsl
      · rw [e] at hlt; cases hlt
      simp only [Value.slice.injEq] at hle
      obtain ⟨rfl, _, rfl⟩ := hle
      have hcell := hrow k hlt
      have hlz : lb < wr.heap.size := World.block_lt_of_cell? _ _ hcell
      obtain ⟨c, hcc⟩ : ∃ c : Nat, l.getD k 0 = (c : Int) := ⟨(l.getD k 0).toNat, by have := (hby k).1; omega⟩
      have hc256 : c < 256 := by have := (hby k).2; omega
      rw [hcc] at hcell
      have HCC := Lib.hid hcc
      have HPK := Lib.hid (place_of (k + 1) l.length)
      rw [show decide (k + 1 = 0) = false by simp, show ((k + 1 : Nat) : Int) = (k : Int) + 1 by omega] at HPK
      have hdrop : l.drop k = (c : Int) :: l.drop (k + 1) := by
        rw [List.drop_eq_getElem_cons hlt, ← hcc, List.getD_eq_getElem?_getD, List.getElem?_eq_getElem hlt]
        rfl
      obtain ⟨pek, hpk⟩ : ∃ b, b = decide (k + 1 = l.length) := ⟨_, rfl⟩
      have HRS : Hid (runF g l.length (k + 1) (stepF g false pek (c : Nat) L1) (l.drop (k + 1)) = R) := Lib.hid (by
        have := HR.out.1
        rw [hdrop] at this
        rw [hpk]
        exact this)
      rw [← hpk] at HPK
      clear hby hcap hcm hrow hcc hdrop hpk
      go_wp2_with fail
      refine (HPK.out wr).mono ?_
      rintro r X1 ⟨rfl, hb1⟩
      obtain ⟨v1, n1, v2, n2, L2, h1, h2, hap, hn1, hn2⟩ := HI.out.a
      have hst1 := (step_ok HCL.out false pek (c : Nat) L1).lt
      rw [← HN.out] at hst1
      have hBX : w1.heap.size ≤ X1.heap.size := Nat.le_trans HWX.out.2.size hb1.size
      have hg1 := HWX.out.1.below hb1
      have HFO := Lib.hid (follow_any w1.heap.size B' gb st a2 i2 a1 i1 n n2 n1 g L2 L1 v2 v1 c hc256 false pek X1 HN.out HCL.out hn6' (by omega) hg1 (h2.below hb1) (h1.below hb1) hap.symm HR.out.2 hBX)
      have HH1 := Lib.hid (h1.below hb1)
      have HH2 := Lib.hid (h2.below hb1)
      have HG1 := Lib.hid hg1
      have HAP := Lib.hid hap
      have HBX : Hid (Below w1.heap.size w1 X1) := Lib.hid (HWX.out.2.trans (hb1.mono HWX.out.2.size))
      have HST := Lib.hid hst1
      clear h1 h2 hap hb1 hg1 hst1 hcell hlz
      go_wp2_with fail
      refine HFO.out.mono ?_
      rintro r X2 ⟨rfl, v3, hs3, hc3⟩
      obtain ⟨ho1, hap3⟩ := HH1.out.other HH2.out hc3 HAP.out.symm
      have HI2 : Hid (AccI w1.heap.size gb n a2 i2 a1 i1 (stepF g false pek (c : Nat) L1) (k + 1) X2) := Lib.hid ⟨v3, n2 + 1, v1, n1, L1, hs3, ho1, hap3, by omega, by omega⟩
      have HW2 : Hid (GrAt B' gb g st X2 ∧ Below w1.heap.size w1 X2) := Lib.hid ⟨HG1.out.chS hc3 HH2.out, HBX.out.trans hc3.bel⟩
      clear hs3 hc3 ho1 hap3 HFO
      go_wp2_with fail
      go_roundg (l.length - (k + 1))
      case measure => have := HGH.out; omega
      case rel => exact ⟨k + 1, a2, i2, a1, i1, _, rfl, by omega, rfl, rfl, by simp, HI2.out, ⟨HRS.out, HST.out⟩, HW2.out⟩
    · obtain rfl : k = l.length := by omega
      have hnl : ¬ (l.length : Int) < (l.length : Int) := by omega
      have HRR : Hid (L1 = R) := Lib.hid (by
        have := HR.out.1
        rw [List.drop_length] at this
        exact this)
      obtain ⟨v1, n1, v2, n2, L2, h1, h2, hap, hn1, hn2⟩ := HI.out.a
      have HA := Lib.hid (setAcc_any w1.heap.size gb a1 i1 n L1 n1 v1 wr h1 (by omega))
      rw [HRR.out] at HA
      have hrr := HRES.out
      clear h1 h2 hap
      generalize R.contains 0 = q at HA hrr
      have HQ := Lib.hid hrr
      clear hrr
      go_wp2_with fail
      refine HA.out.mono ?_
      rintro r X1 ⟨rfl, hb1⟩
      have HBX : Hid (Below w1.heap.size w1 X1) := Lib.hid (HWX.out.2.trans (hb1.mono HWX.out.2.size))
      clear hb1
      go_wp2
      go_ret
      exact ⟨by rw [HQ.out]; rfl, HBX.out⟩
end Go.Proofs.YtcceiblmdjbhjaaGreatDoor
