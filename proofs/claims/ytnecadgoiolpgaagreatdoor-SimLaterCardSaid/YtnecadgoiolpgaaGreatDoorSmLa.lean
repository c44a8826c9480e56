import Derived.Test.YtnecadgoiolpgaaGreatDoorKSd
import Derived.Test.YtnecadgoiolpgaaGreatDoorSmQ
namespace Go.Proofs.YtnecadgoiolpgaaGreatDoor
open Go.RowKit
set_option maxRecDepth 100000 in
set_option maxHeartbeats 16000000 in
theorem slater_any (cf : ByteArray → (Nat → Bool) × Bool) (hcf : ClassOk cf) (e : Nat → Addr) (bv sv : Value) (lb l : List Int) (ext : Bool) (a b : Int) (w : World) (hs : Snt w e) (he : Es w w.heap.size e) (ht : Ety w) (hb : Sl w bv lb) (hnb : BelV bv w.heap.size) (hsv : Sl w sv l) :
  Calls Tryz.prog 9 #[bv, .bool ext, sv, .int .i64 a, .int .i64 b] w fun x w' => x = .returned (.bool true) ∧ Below w.heap.size w w' := by
 obtain ⟨r, hr⟩ := parseN_some cf lb ext
 have HBU := Lib.hid ((sbuild_any cf e bv lb (bkC_of hcf _) ext _ r w hs he ht hb hnb hr).mono fun x w' hq => sblq_or hq)
 have HAW : Hid (∀ X, Below w.heap.size w X → Calls Tryz.prog 12 #[] X fun x w' => x = .returned (.bool true) ∧ Below X.heap.size X w') := Lib.hid (fun X hX => awake10_any e X (hs.below hX) ⟨(he.below hX).var, Nat.lt_of_lt_of_le he.low hX.size, Nat.le_refl _⟩ (ht.below hX))
 obtain ⟨ba, bc, rfl⟩ := sl_shapeL hb
 obtain ⟨sa, sc, rfl⟩ := sl_shapeL hsv
 have HL := Lib.hid hsv
 have HB0 : Hid (Below w.heap.size w w) := Lib.hid (Below.refl _ _)
 obtain ⟨bb, hbb⟩ : ∃ bb, bb = decide (60 < l.length ∨ a < 0 ∨ b < a ∨ (l.length : Int) < b) := ⟨_, rfl⟩
 have HBB := Lib.hid hbb
 clear hs he ht hb hnb hsv hr hbb
 go_enter Tryz.func9, Tryz.ntmps9
 go_upto_region 1 with fail
 go_cut [31] (fun s31 X => s31 = .bool bb ∧ X = w)
 case first =>
  by_cases c1 : 60 < l.length
  ·have d1 : (60 : Int) < (l.length : Int) := by omega
   have e1 : decide ((60 : Int) < (l.length : Int)) = true := decide_eq_true d1
   go_wp2_with fail
   go_meet
   exact ⟨by rw [HBB.out]; simp [c1], rfl⟩
  ·have d1 : ¬ (60 : Int) < (l.length : Int) := by omega
   have e1 : decide ((60 : Int) < (l.length : Int)) = false := decide_eq_false d1
   by_cases c2 : a < 0
   ·have e2 : decide (a < 0) = true := decide_eq_true c2
    go_wp2_with fail
    go_meet
    exact ⟨by rw [HBB.out]; simp [c2], rfl⟩
   ·have e2 : decide (a < 0) = false := decide_eq_false c2
    by_cases c3 : b < a
    ·have e3 : decide (b < a) = true := decide_eq_true c3
     go_wp2_with fail
     go_meet
     exact ⟨by rw [HBB.out]; simp [c3], rfl⟩
    ·have e3 : decide (b < a) = false := decide_eq_false c3
     by_cases c4 : (l.length : Int) < b
     ·have e4 : decide ((l.length : Int) < b) = true := decide_eq_true c4
      go_wp2_with fail
      go_meet
      exact ⟨by rw [HBB.out]; simp [c4], rfl⟩
     ·have e4 : decide ((l.length : Int) < b) = false := decide_eq_false c4
      go_wp2_with fail
      go_meet
      exact ⟨by rw [HBB.out, decide_eq_false (by omega)], rfl⟩
 obtain ⟨rfl, rfl⟩ := hcut
 cases bb with
 | true =>
  go_wp2_with fail
  refine (HAW.out wc HB0.out).mono ?_
  rintro x w9 ⟨rfl, hb9⟩
  have HB10 := Lib.hid (HB0.out.trans (hb9.mono HB0.out.size))
  clear hb9
  go_wp2
  go_ret
  exact ⟨rfl, HB10.out⟩
 | false =>
  have hcnd := of_decide_eq_false HBB.out.symm
  have hl60 : l.length ≤ 60 := by omega
  obtain ⟨na, rfl⟩ : ∃ na : Nat, a = (na : Int) := ⟨a.toNat, by omega⟩
  obtain ⟨nb, rfl⟩ : ∃ nb : Nat, b = (nb : Int) := ⟨b.toNat, by omega⟩
  have hnab : na ≤ nb := by omega
  clear hcnd HBB
  go_wp2_with fail
  refine HBU.out.mono ?_
  rintro x w1 ⟨hb1, (rfl | ⟨gb, st, g, rfl, hA⟩)⟩
  ·have HB1 := Lib.hid hb1
   clear hb1
   go_wp2_with fail
   refine (HAW.out w1 HB1.out).mono ?_
   rintro x w9 ⟨rfl, hb9⟩
   have HB10 := Lib.hid (HB1.out.trans (hb9.mono HB1.out.size))
   clear hb9
   go_wp2
   go_ret
   exact ⟨rfl, HB10.out⟩
  have HB1 := Lib.hid hb1
  have HA := Lib.hid hA
  have HL1 := Lib.hid (HL.out.below hb1)
  clear hb1 hA HBU
  go_wp2_with fail
  refine (states_aut HA.out).mono ?_
  rintro x w2 ⟨rfl, rfl⟩
  by_cases h300 : 300 < g.length
  ·have h301 : (300 : Int) < (g.length : Int) := by omega
   go_wp2_with fail
   refine (HAW.out w2 HB1.out).mono ?_
   rintro x w9 ⟨rfl, hb9⟩
   have HB10 := Lib.hid (HB1.out.trans (hb9.mono HB1.out.size))
   clear hb9
   go_wp2
   go_ret
   exact ⟨rfl, HB10.out⟩
  have h301 : ¬ (300 : Int) < (g.length : Int) := by omega
  have HX := Lib.hid (ssearch_any gb st g _ l na w2 HA.out HL1.out (by omega))
  have HY := Lib.hid (fun X (hX : Below w2.heap.size w2 X) => ssearch_any gb st g _ l nb X (HA.out.below hX) (HL1.out.below hX) (by omega))
  have hrel := found_later hnab (ask_found (l := l) (G := (g, st)) HA.out.cl HA.out.ze HA.out.lt na 1) (ask_found (l := l) (G := (g, st)) HA.out.cl HA.out.ze HA.out.lt nb 1)
  obtain ⟨⟨h1, x1⟩, hR1⟩ : ∃ R, R = askF (g, st) l (na : Int) 1 := ⟨_, rfl⟩
  obtain ⟨⟨h2, x2⟩, hR2⟩ : ∃ R, R = askF (g, st) l (nb : Int) 1 := ⟨_, rfl⟩
  rw [← hR1] at HX hrel
  rw [← hR2] at HY hrel
  dsimp only at hrel
  have HREL := Lib.hid hrel
  clear hR1 hR2 hrel HL h300
  cases h1 with
  | none =>
   have e2 := HREL.out.1 rfl
   subst e2
   rw [hitV_none] at HX HY
   go_wp2_with fail
   refine HX.out.mono ?_
   rintro x w3 ⟨rfl, hb3⟩
   have HB3 := Lib.hid hb3
   clear hb3
   go_wp2_with fail
   refine (HY.out w3 HB3.out).mono ?_
   rintro x w4 ⟨rfl, hb4⟩
   have HB4 : Hid (Below wc.heap.size wc w4) := Lib.hid (HB1.out.trans ((HB3.out.trans (hb4.mono HB3.out.size)).mono HB1.out.size))
   have HB5 : Hid (∀ o1 o2, Below wc.heap.size wc ((w4.alloc o1).alloc o2)) := Lib.hid (fun o1 o2 => (HB4.out.alloc HB4.out.size _).alloc (by have := HB4.out.size; simp; omega) _)
   clear hb4
   go_wp2_with fail
   refine (HAW.out _ (HB5.out _ _)).mono ?_
   rintro x w9 ⟨rfl, hb9⟩
   have HB10 := Lib.hid ((HB5.out _ _).trans (hb9.mono (HB5.out _ _).size))
   clear hb9
   go_wp2
   go_ret
   exact ⟨rfl, HB10.out⟩
  | some q =>
   obtain ⟨s, t⟩ := q
   rw [hitV_some] at HX
   by_cases hsb : nb ≤ s
   ·have e2 := HREL.out.2.1 _ rfl hsb
    subst e2
    rw [hitV_some] at HY
    have hsb' : (nb : Int) ≤ (s : Int) := by omega
    go_wp2_with fail
    refine HX.out.mono ?_
    rintro x w3 ⟨rfl, hb3⟩
    have HB3 := Lib.hid hb3
    clear hb3
    go_wp2_with fail
    refine (HY.out w3 HB3.out).mono ?_
    rintro x w4 ⟨rfl, hb4⟩
    have HB4 : Hid (Below wc.heap.size wc w4) := Lib.hid (HB1.out.trans ((HB3.out.trans (hb4.mono HB3.out.size)).mono HB1.out.size))
    have HB5 : Hid (∀ o1 o2, Below wc.heap.size wc ((w4.alloc o1).alloc o2)) := Lib.hid (fun o1 o2 => (HB4.out.alloc HB4.out.size _).alloc (by have := HB4.out.size; simp; omega) _)
    clear hb4
    go_wp2_with fail
    refine (HAW.out _ (HB5.out _ _)).mono ?_
    rintro x w9 ⟨rfl, hb9⟩
    have HB10 := Lib.hid ((HB5.out _ _).trans (hb9.mono (HB5.out _ _).size))
    clear hb9
    go_wp2
    go_ret
    exact ⟨rfl, HB10.out⟩
   ·have hsb' : ¬ (nb : Int) ≤ (s : Int) := by omega
    cases h2 with
    | none =>
     rw [hitV_none] at HY
     go_wp2_with fail
     refine HX.out.mono ?_
     rintro x w3 ⟨rfl, hb3⟩
     have HB3 := Lib.hid hb3
     clear hb3
     go_wp2_with fail
     refine (HY.out w3 HB3.out).mono ?_
     rintro x w4 ⟨rfl, hb4⟩
     have HB4 : Hid (Below wc.heap.size wc w4) := Lib.hid (HB1.out.trans ((HB3.out.trans (hb4.mono HB3.out.size)).mono HB1.out.size))
     have HB5 : Hid (∀ o1 o2, Below wc.heap.size wc ((w4.alloc o1).alloc o2)) := Lib.hid (fun o1 o2 => (HB4.out.alloc HB4.out.size _).alloc (by have := HB4.out.size; simp; omega) _)
     clear hb4
     go_wp2_with fail
     refine (HAW.out _ (HB5.out _ _)).mono ?_
     rintro x w9 ⟨rfl, hb9⟩
     have HB10 := Lib.hid ((HB5.out _ _).trans (hb9.mono (HB5.out _ _).size))
     clear hb9
     go_wp2
     go_ret
     exact ⟨rfl, HB10.out⟩
    | some q2 =>
     obtain ⟨s2, t2⟩ := q2
     have hs2 : nb ≤ s2 := HREL.out.2.2 _ rfl
     have hs2' : (nb : Int) ≤ (s2 : Int) := by omega
     have hs2'' : ¬ (s2 : Int) < (nb : Int) := by omega
     rw [hitV_some] at HY
     go_wp2_with fail
     refine HX.out.mono ?_
     rintro x w3 ⟨rfl, hb3⟩
     have HB3 := Lib.hid hb3
     clear hb3
     go_wp2_with fail
     refine (HY.out w3 HB3.out).mono ?_
     rintro x w4 ⟨rfl, hb4⟩
     have HB4 : Hid (Below wc.heap.size wc w4) := Lib.hid (HB1.out.trans ((HB3.out.trans (hb4.mono HB3.out.size)).mono HB1.out.size))
     have HB5 : Hid (∀ o1 o2, Below wc.heap.size wc ((w4.alloc o1).alloc o2)) := Lib.hid (fun o1 o2 => (HB4.out.alloc HB4.out.size _).alloc (by have := HB4.out.size; simp; omega) _)
     clear hb4
     go_wp2_with fail
     refine (HAW.out _ (HB5.out _ _)).mono ?_
     rintro x w9 ⟨rfl, hb9⟩
     have HB10 := Lib.hid ((HB5.out _ _).trans (hb9.mono (HB5.out _ _).size))
     clear hb9
     go_wp2
     go_ret
     exact ⟨rfl, HB10.out⟩
end Go.Proofs.YtnecadgoiolpgaaGreatDoor
