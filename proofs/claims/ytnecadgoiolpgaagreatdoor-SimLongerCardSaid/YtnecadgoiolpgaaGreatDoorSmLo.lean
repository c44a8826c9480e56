import Derived.Test.YtnecadgoiolpgaaGreatDoorKSr
import Derived.Laws.AppendOwn
import Derived.Laws.AppendOwnNone
import Derived.Deep.LoopGhost
import Derived.Deep.CutRange
import Derived.Deep.CutBlock
namespace Go.Proofs.YtnecadgoiolpgaaGreatDoor
open Go.RowKit
theorem by_parts : ∃ i z, Tryz.prog.info? 5 = some i ∧ i.zero = some z ∧ i.size = 1 ∧ i.bytes = 1 ∧ z.cells.size = 1 := by
 have h : (Tryz.prog.info? 5).map (fun i => (i.zero.map (·.cells.size), i.size, i.bytes)) = some (some 1, 1, 1) := by kernel_rfl
 obtain ⟨i, hi, hzz⟩ := Option.map_eq_some_iff.1 h
 simp only [Prod.mk.injEq] at hzz
 obtain ⟨z, hz, hs⟩ := Option.map_eq_some_iff.1 hzz.1
 exact ⟨i, z, hi, hz, hzz.2.1, hzz.2.2, hs⟩
theorem one_sl {L : List Int} : ∀ u ∈ L.map (Value.int .u8), u.oneCell' = true := by
 intro u hu
 obtain ⟨n, _, rfl⟩ := List.mem_map.1 hu
 rfl
theorem news_slA {w : World} {a : Addr} {n cap : Nat} {L : List Int} (h : Sl w (.slice (some a) n cap) L) : L.length = n ∧ ∀ j u, (L.map (Value.int .u8))[j]? = some u → w.cell? (a.add j) = some u := by
 obtain ⟨_, _, ⟨rfl, a', c', he⟩ | ⟨b, o, cap', he, _, _, hr⟩⟩ := h
 ·simp only [Value.slice.injEq] at he
  exact ⟨he.2.1.symm, fun j u hj => by simp at hj⟩
 ·simp only [Value.slice.injEq, Option.some.injEq] at he
  obtain ⟨rfl, rfl, rfl⟩ := he
  refine ⟨rfl, fun j u hj => ?_⟩
  have hlt : j < L.length := by
   have := (List.getElem?_eq_some_iff.1 hj).1
   simpa using this
  rw [WideShapes.add_plain, hr j hlt]
  rw [List.getElem?_map, List.getElem?_eq_getElem hlt] at hj
  simp only [Option.map_some, Option.some.injEq] at hj
  rw [← hj, List.getD, List.getElem?_eq_getElem hlt]
  rfl
theorem news_sl {w : World} {a : Addr} {cap : Nat} {L : List Int} (h : Sl w (.slice (some a) L.length cap) L) : ∀ j u, (L.map (Value.int .u8))[j]? = some u → w.cell? (a.add j) = some u := (news_slA h).2
theorem slOwnedL {w : World} {base : Nat} {e : TypeId} {v : Value} {n : Nat} {L : List Int} (h : w.ownsRow base e 1 v n (L.map (Value.int .u8))) (hy : Byt L) (hl : L.length ≤ 9223372036854775807) : Sl w v L := by
 obtain ⟨h1, ⟨rfl, rfl⟩ | ⟨g, cap, cur, rfl, _, hb, hc, hm, hs, ht⟩⟩ := h
 ·have : L = [] := List.length_eq_zero_iff.1 (by simpa using h1)
  exact ⟨hy, hl, Or.inl ⟨this, none, 0, rfl⟩⟩
 ·have hn : L.length = n := by simpa using h1
  refine ⟨hy, hl, Or.inr ⟨g, 0, cap, by rw [hn], by omega, by unfold maxLen at hm; omega, fun i hi => ?_⟩⟩
  rw [Nat.zero_add]
  have e1 : w.cell? ⟨g, i, none⟩ = cur[i]? := by simp [World.cell?, hb]
  have e2 : (cur.toList.take (n * 1))[i]? = (L.map (Value.int .u8))[i]? := by rw [ht]
  rw [List.getElem?_take, if_pos (by omega)] at e2
  rw [e1, ← Array.getElem?_toList, e2]
  simp [List.getD, List.getElem?_eq_getElem hi]
theorem below_appL {B s n : Nat} {T : TypeId} {v : Value} {xs : List Value} {w w1 w2 : World} (h : Below B w w1) (hr : w1.ownsRow B T s v n xs) (hg : w1.grownBy w2 v.ownBlock) (hz : B ≤ w1.heap.size) : Below B w w2 :=
 h.trans ⟨hg.os, hg.tape, hg.output, hg.size, fun k hk => hg.block k (Nat.lt_of_lt_of_le hk hz) (fun e => by have := (hr.lt k e.symm).1; omega)⟩
theorem wpList_app_sl {ops : Array Oper} {rest : List Oper} {o : Oper} {a : Act} {Q : Exit → Act → World → Prop} (w : World) (hgd : o.guard = none) (s x : Operand)
  (ho : o.op = .call { callee := .builtin .append, args := #[s, x], argTypes := #[22, 22] }) (B : Nat) (v : Value) (n : Nat) (xs l : List Int) (hn : n ≤ 1000000) (hs : a.eval s = v) (hown : w.ownsRow B 5 1 v n (xs.map (Value.int .u8)))
  (xa : Option Addr) (xc : Nat) (hx : a.eval x = .slice xa l.length xc) (hsl : Sl w (.slice xa l.length xc) l) (hnil : xa = none → l.length = 0 ∧ xc = 0) (hl : l.length ≤ 1000000) (hB : B ≤ w.heap.size)
  (h : ∀ v' w', w'.ownsRow B 5 1 v' (n + l.length) ((xs ++ l).map (Value.int .u8)) → w.grownBy w' v.ownBlock → wpList Tryz.prog ops Q rest (a.put o.dst v') w') : wpList Tryz.prog ops Q (o :: rest) a w := by
 obtain ⟨i0, z0, hi0, hz0, hz1, hz2, hz3⟩ := by_parts
 cases xa with
 | none =>
  obtain ⟨e1, e2⟩ := hnil rfl
  have e3 : l = [] := List.length_eq_zero_iff.1 e1
  subst e3
  refine wpList_append_own_none hgd s x 22 ho B 5 i0 1 Tryz.underlying22 hi0 v n _ hs hown (by rw [hx, e2]; rfl) (h v w ?_ ⟨rfl, rfl, rfl, Nat.le_refl _, fun _ _ _ => rfl⟩)
  rw [List.append_nil]
  exact hown
 | some ad =>
  have HN := news_sl hsl
  refine wpList_append_own w hgd s x 22 ho B 5 i0 z0 1 1 Tryz.underlying22 hi0 hz0 hz1 hz2 hz3 (by decide) v n _ hs hown ad l.length xc (l.map (Value.int .u8)) hx (by simp) HN one_sl (by unfold maxLen; omega) (by omega) hB (fun v' w' h1 h2 _ => h v' w' ?_ h2)
  rw [List.map_append]
  exact h1
set_option maxRecDepth 100000 in
set_option maxHeartbeats 16000000 in
theorem slonger_any (cf : ByteArray → (Nat → Bool) × Bool) (hcf : ClassOk cf) (e : Nat → Addr) (bv sv mv : Value) (lb l m : List Int) (ext : Bool) (w : World) (hs : Snt w e) (he : Es w w.heap.size e) (ht : Ety w) (hb : Sl w bv lb) (hnb : BelV bv w.heap.size) (hsv : Sl w sv l) (hmv : Sl w mv m) (hns : ∀ n cap, sv = .slice none n cap → n = 0 ∧ cap = 0) (hnm : ∀ n cap, mv = .slice none n cap → n = 0 ∧ cap = 0) :
  Calls Tryz.prog 7 #[bv, .bool ext, sv, mv] w fun x w' => x = .returned (.bool true) ∧ Below w.heap.size w w' := by
 obtain ⟨r, hr⟩ := parseN_some cf lb ext
 obtain ⟨_, _, _, hby, hcell⟩ := hb.sub
 have HBU := Lib.hid ((sbuild_any cf e bv lb (bkC_of hcf _) ext _ r w hs he ht hb hnb hr).mono fun x w' hq => sblq_nA hby hr hq)
 have HAW : Hid (∀ X, Below w.heap.size w X → Calls Tryz.prog 12 #[] X fun x w' => x = .returned (.bool true) ∧ Below X.heap.size X w') := Lib.hid (fun X hX => awake10_any e X (hs.below hX) ⟨(he.below hX).var, Nat.lt_of_lt_of_le he.low hX.size, Nat.le_refl _⟩ (ht.below hX))
 obtain ⟨ba, bc, rfl⟩ := sl_shapeL hb
 obtain ⟨sa, sc, rfl⟩ := sl_shapeL hsv
 obtain ⟨ma, mc, rfl⟩ := sl_shapeL hmv
 have HNS : Hid (sa = none → l.length = 0 ∧ sc = 0) := Lib.hid (fun h => hns _ _ (by rw [h]))
 have HNM : Hid (ma = none → m.length = 0 ∧ mc = 0) := Lib.hid (fun h => hnm _ _ (by rw [h]))
 have HBY := Lib.hid (And.intro hsv.1 hmv.1)
 have HBS := Lib.hid hb
 have HLS := Lib.hid hsv
 have HLM := Lib.hid hmv
 have HB0 : Hid (Below w.heap.size w w) := Lib.hid (Below.refl _ _)
 obtain ⟨bb, hbb⟩ : ∃ bb, bb = decide (60 < l.length ∨ 60 < m.length) := ⟨_, rfl⟩
 have HBB := Lib.hid hbb
 clear hs he ht hb hnb hsv hmv hr hbb hby hcell hns hnm
 go_enter Tryz.func7, Tryz.ntmps7
 go_upto_region 1 with fail
 go_cut [22] (fun s22 X => s22 = .bool bb ∧ X = w)
 case first =>
  by_cases c1 : 60 < l.length
  ·have d1 : (60 : Int) < (l.length : Int) := by omega
   go_wp2_with fail
   go_meet
   exact ⟨by rw [HBB.out]; simp [c1], rfl⟩
  ·have d1 : ¬ (60 : Int) < (l.length : Int) := by omega
   by_cases c2 : 60 < m.length
   ·have d2 : (60 : Int) < (m.length : Int) := by omega
    go_wp2_with fail
    go_meet
    exact ⟨by rw [HBB.out]; simp [c2], rfl⟩
   ·have d2 : ¬ (60 : Int) < (m.length : Int) := by omega
    go_wp2_with fail
    go_meet
    exact ⟨by rw [HBB.out, decide_eq_false (by omega)], rfl⟩
 obtain ⟨rfl, rfl⟩ := hcut
 cases bb with
 | true =>
  go_wp2_with fail
  refine (HAW.out wc HB0.out).mono ?_
  rintro x w9 ⟨rfl, hb9⟩
  have HB10 := Lib.hid ((HB0.out).trans (hb9.mono (HB0.out).size))
  clear hb9
  go_wp2
  go_ret
  exact ⟨rfl, HB10.out⟩
 | false =>
  have hcnd := of_decide_eq_false HBB.out.symm
  have hl60 : l.length ≤ 60 := by omega
  have hm60 : m.length ≤ 60 := by omega
  clear hcnd HBB
  go_wp2_with fail
  go_loopg [26] lb.length (fun gh s26 X => ∃ i : Nat, gh = lb.length - i ∧ i ≤ lb.length ∧ s26 = .int .i64 (i : Nat) ∧ (∀ k, k < i → lb.getD k 0 ≠ 94 ∧ lb.getD k 0 ≠ 36) ∧ X = wc)
  case atStart => exact ⟨0, rfl, Nat.zero_le _, rfl, fun k hk => by omega, rfl⟩
  case round =>
   obtain ⟨i, hgh, hi, rfl, hno, rfl⟩ := hrel
   have HGH := Lib.hid hgh
   have HNO := Lib.hid hno
   clear hgh hno
   by_cases hil : i < lb.length
   ·have hil' : (i : Int) < (lb.length : Int) := by omega
    obtain ⟨_, _, hv, _, hcell⟩ := HBS.out.sub
    obtain ⟨rfl, _, rfl⟩ := Value.slice.inj hv
    obtain ⟨xb, xo, rfl, e2, e3⟩ := hcell i hil
    obtain ⟨c, hc⟩ : ∃ c, c = lb.getD i 0 := ⟨_, rfl⟩
    rw [← hc] at e3
    have HC := Lib.hid hc
    clear hv hcell hc
    by_cases h1 : c = 36
    ·rw [h1] at e3
     go_wp2_with fail
     refine (HAW.out wr HB0.out).mono ?_
     rintro x w9 ⟨rfl, hb9⟩
     have HB10 := Lib.hid ((HB0.out).trans (hb9.mono (HB0.out).size))
     clear hb9
     go_wp2
     go_ret
     exact ⟨rfl, HB10.out⟩
    by_cases h2 : c = 94
    ·rw [h2] at e3
     go_wp2_with fail
     refine (HAW.out wr HB0.out).mono ?_
     rintro x w9 ⟨rfl, hb9⟩
     have HB10 := Lib.hid ((HB0.out).trans (hb9.mono (HB0.out).size))
     clear hb9
     go_wp2
     go_ret
     exact ⟨rfl, HB10.out⟩
    have HWR : Hid (wrap64 ((i : Int) + 1) = (i : Int) + 1) := Lib.hid (by
     have := HBS.out.2.1
     unfold wrap64
     omega)
    go_wp2_with fail
    go_roundg (lb.length - (i + 1))
    case measure => have := HGH.out; omega
    case rel => exact ⟨i + 1, rfl, by omega, by simp; exact HWR.out, fun k hk => by
     by_cases hki : k < i
     ·exact HNO.out k hki
     ·obtain rfl : k = i := by omega
      rw [← HC.out]
      exact ⟨h2, h1⟩, rfl⟩
   ·obtain rfl : i = lb.length := by omega
    have hnl : ¬ (lb.length : Int) < (lb.length : Int) := by omega
    have HNA : Hid (NoA lb) := Lib.hid (fun k => by
     by_cases hk : k < lb.length
     ·exact HNO.out k hk
     ·rw [List.getD_eq_getElem?_getD, List.getElem?_eq_none (by omega)]
      decide)
    clear hil hi HGH
    go_wp2_with fail
    refine HBU.out.mono ?_
    rintro x w1 ⟨hb1, (rfl | ⟨gb, t, rfl, hA, hok, hna⟩)⟩
    ·have HB1 := Lib.hid hb1
     clear hb1
     go_wp2_with fail
     refine (HAW.out w1 HB1.out).mono ?_
     rintro x w9 ⟨rfl, hb9⟩
     have HB10 := Lib.hid ((HB1.out).trans (hb9.mono (HB1.out).size))
     clear hb9
     go_wp2
     go_ret
     exact ⟨rfl, HB10.out⟩
    have HB1 := Lib.hid hb1
    have HA := Lib.hid hA
    have HOK := Lib.hid hok
    have HNT := Lib.hid (hna HNA.out)
    clear hb1 hA hok hna HBU HNO HNA
    go_wp2_with fail
    refine (states_aut HA.out).mono ?_
    rintro x w2 ⟨rfl, rfl⟩
    by_cases h300 : 300 < t.G.1.length
    ·have h301 : (300 : Int) < (t.G.1.length : Int) := by omega
     go_wp2_with fail
     refine (HAW.out w2 HB1.out).mono ?_
     rintro x w9 ⟨rfl, hb9⟩
     have HB10 := Lib.hid ((HB1.out).trans (hb9.mono (HB1.out).size))
     clear hb9
     go_wp2
     go_ret
     exact ⟨rfl, HB10.out⟩
    have h301 : ¬ (300 : Int) < (t.G.1.length : Int) := by omega
    clear h300
    have HASK := Lib.hid (longer_asks HA.out HOK.out HNT.out l m)
    have HLO := Lib.hid (fun X (v : Value) (s : List Int) (a : Int) (hX : Below w2.heap.size w2 X) (hS : Sl X v s) (hl : s.length ≤ 200) => slongest_any gb t.G.2 t.G.1 v s a X (HA.out.below hX) hS (by omega))
    clear HNT HOK
    go_wp2_with fail
    refine (HLO.out w2 _ l 0 (Below.refl _ _) (HLS.out.below HB1.out) (by omega)).mono ?_
    rintro x w3 ⟨rfl, hb3⟩
    obtain ⟨⟨hx, vx⟩, hRx⟩ : ∃ R, R = askF t.G l 0 0 := ⟨_, rfl⟩
    rw [show askF (t.G.1, t.G.2) l 0 0 = (hx, vx) from hRx.symm]
    have HASK' := HASK.out
    rw [← hRx] at HASK'
    have HASX := Lib.hid HASK'
    clear HASK HASK' hRx
    obtain ⟨s0, e0, _, _, hval⟩ := hitC_parts hx
    rw [hval]
    have HBI := Lib.hid hb3
    clear hb3
    go_upto_region 13 with fail
    obtain ⟨WA, hWA⟩ : ∃ W, W = w3.alloc (.cells #[.bool hx.isSome, .int .i64 (s0 : Nat), .int .i64 (e0 : Nat), .int .i64 (vx : Nat)] 30) := ⟨_, rfl⟩
    have HHA : Hid (WA.heap[w3.heap.size]? = some (.cells #[.bool hx.isSome, .int .i64 (s0 : Nat), .int .i64 (e0 : Nat), .int .i64 (vx : Nat)] 30 (0, 0))) := Lib.hid (by rw [hWA]; exact alloc_last w3 _)
    rw [← hWA]
    have HBWA : Hid (Below w2.heap.size w2 WA) := Lib.hid (by rw [hWA]; exact HBI.out.alloc HBI.out.size _)
    clear hWA HBI
    generalize w3.heap.size = gA at *
    have HBa : Hid (Below WA.heap.size WA (WA.alloc (.cells #[] 5))) := Lib.hid ((Below.refl _ _).alloc (Nat.le_refl _) _)
    have HO1 : Hid ((WA.alloc (.cells #[] 5)).ownsRow WA.heap.size 5 1 (.slice (some ⟨WA.heap.size, 0, none⟩) 0 0) 0 []) := Lib.hid (World.ownsRow_made WA #[] 0 (Nat.le_refl _) (by decide) rfl)
    have HS1 := Lib.hid ((HLS.out.below (HB1.out.trans (HBWA.out.mono HB1.out.size))).below HBa.out)
    go_wp2_with (at_builtin; refine wpList_app_sl _ rfl (.tmp 53) (.tmp 54) rfl WA.heap.size _ 0 [] l (by omega) rfl HO1.out sa sc rfl HS1.out HNS.out (by omega) HBa.out.size ?_)
    intro v1 W5 hown1 hgr1
    try simp only [List.nil_append, Nat.zero_add] at hown1
    have HB5 := Lib.hid (below_appL HBa.out HO1.out hgr1 HBa.out.size)
    have HO2 := Lib.hid hown1
    have HS2 := Lib.hid ((HLM.out.below (HB1.out.trans (HBWA.out.mono HB1.out.size))).below HB5.out)
    clear hown1 hgr1
    go_wp2_with (at_builtin; refine wpList_app_sl _ rfl (.tmp 55) (.tmp 56) rfl WA.heap.size v1 l.length l m (by omega) rfl HO2.out ma mc rfl HS2.out HNM.out (by omega) HB5.out.size ?_)
    intro v2 W6 hown2 hgr2
    have HB6 := Lib.hid (below_appL HB5.out HO2.out hgr2 HB5.out.size)
    have hown3 : W6.ownsRow WA.heap.size 5 1 v2 (l.length + m.length) ((l ++ m).map (Value.int .u8)) := by rw [List.map_append]; exact hown2
    have HS3 : Hid (Sl W6 v2 (l ++ m)) := Lib.hid (slOwnedL hown3 (byt_app HBY.out.1 HBY.out.2) (by simp; omega))
    have HBI : Hid (Below w2.heap.size w2 W6) := Lib.hid (HBWA.out.trans (HB6.out.mono HBWA.out.size))
    clear hown2 hown3 hgr2 HB5 HO2 HS2 HS1 HO1 HBa
    go_wp2_with fail
    refine (HLO.out W6 v2 (l ++ m) 0 HBI.out HS3.out (by simp; omega)).mono ?_
    rintro x W7 ⟨rfl, hb7⟩
    have HBI : Hid (Below w2.heap.size w2 W7) := Lib.hid (HBI.out.trans (hb7.mono HBI.out.size))
    have HB67 : Hid (Below WA.heap.size WA W7) := Lib.hid (HB6.out.trans (hb7.mono HB6.out.size))
    have HHA := Lib.hid (blk_below HHA.out HB67.out)
    clear hb7 HB6 HS3
    obtain ⟨⟨hy, vy⟩, hRy⟩ : ∃ R, R = askF t.G (l ++ m) 0 0 := ⟨_, rfl⟩
    rw [show askF (t.G.1, t.G.2) (l ++ m) 0 0 = (hy, vy) from hRy.symm]
    have HASK' := HASX.out
    rw [← hRy] at HASK'
    clear HASX
    have HASX := Lib.hid HASK'
    clear HASK' hRy
    obtain ⟨s1, e1, _, _, hvy⟩ := hitC_parts hy
    rw [hvy]
    go_upto_region 14 with fail
    obtain ⟨WB, hWB⟩ : ∃ W, W = W7.alloc (.cells #[.bool hy.isSome, .int .i64 (s1 : Nat), .int .i64 (e1 : Nat), .int .i64 (vy : Nat)] 30) := ⟨_, rfl⟩
    have HHB : Hid (WB.heap[W7.heap.size]? = some (.cells #[.bool hy.isSome, .int .i64 (s1 : Nat), .int .i64 (e1 : Nat), .int .i64 (vy : Nat)] 30 (0, 0))) := Lib.hid (by rw [hWB]; exact alloc_last W7 _)
    rw [← hWB]
    have HBWB : Hid (Below w2.heap.size w2 WB) := Lib.hid (by rw [hWB]; exact HBI.out.alloc HBI.out.size _)
    have HHA := Lib.hid (by have h := blk_alloc HHA.out (.cells #[.bool hy.isSome, .int .i64 (s1 : Nat), .int .i64 (e1 : Nat), .int .i64 (vy : Nat)] 30); rw [← hWB] at h; exact h)
    clear hWB HBI
    generalize W7.heap.size = gB at *
    have HBa : Hid (Below WB.heap.size WB (WB.alloc (.cells #[] 5))) := Lib.hid ((Below.refl _ _).alloc (Nat.le_refl _) _)
    have HO1 : Hid ((WB.alloc (.cells #[] 5)).ownsRow WB.heap.size 5 1 (.slice (some ⟨WB.heap.size, 0, none⟩) 0 0) 0 []) := Lib.hid (World.ownsRow_made WB #[] 0 (Nat.le_refl _) (by decide) rfl)
    have HS1 := Lib.hid ((HLM.out.below (HB1.out.trans (HBWB.out.mono HB1.out.size))).below HBa.out)
    go_wp2_with (at_builtin; refine wpList_app_sl _ rfl (.tmp 60) (.tmp 61) rfl WB.heap.size _ 0 [] m (by omega) rfl HO1.out ma mc rfl HS1.out HNM.out (by omega) HBa.out.size ?_)
    intro v1 W5 hown1 hgr1
    try simp only [List.nil_append, Nat.zero_add] at hown1
    have HB5 := Lib.hid (below_appL HBa.out HO1.out hgr1 HBa.out.size)
    have HO2 := Lib.hid hown1
    have HS2 := Lib.hid ((HLS.out.below (HB1.out.trans (HBWB.out.mono HB1.out.size))).below HB5.out)
    clear hown1 hgr1
    go_wp2_with (at_builtin; refine wpList_app_sl _ rfl (.tmp 62) (.tmp 63) rfl WB.heap.size v1 m.length m l (by omega) rfl HO2.out sa sc rfl HS2.out HNS.out (by omega) HB5.out.size ?_)
    intro v2 W6 hown2 hgr2
    have HB6 := Lib.hid (below_appL HB5.out HO2.out hgr2 HB5.out.size)
    have hown3 : W6.ownsRow WB.heap.size 5 1 v2 (m.length + l.length) ((m ++ l).map (Value.int .u8)) := by rw [List.map_append]; exact hown2
    have HS3 : Hid (Sl W6 v2 (m ++ l)) := Lib.hid (slOwnedL hown3 (byt_app HBY.out.2 HBY.out.1) (by simp; omega))
    have HBI : Hid (Below w2.heap.size w2 W6) := Lib.hid (HBWB.out.trans (HB6.out.mono HBWB.out.size))
    clear hown2 hown3 hgr2 HB5 HO2 HS2 HS1 HO1 HBa
    go_wp2_with fail
    refine (HLO.out W6 v2 (m ++ l) (m.length : Nat) HBI.out HS3.out (by simp; omega)).mono ?_
    rintro x W7 ⟨rfl, hb7⟩
    have HBI : Hid (Below w2.heap.size w2 W7) := Lib.hid (HBI.out.trans (hb7.mono HBI.out.size))
    have HB67 : Hid (Below WB.heap.size WB W7) := Lib.hid (HB6.out.trans (hb7.mono HB6.out.size))
    have HHA := Lib.hid (blk_below HHA.out HB67.out)
    have HHB := Lib.hid (blk_below HHB.out HB67.out)
    clear hb7 HB6 HS3
    obtain ⟨⟨hz, vz⟩, hRz⟩ : ∃ R, R = askF t.G (m ++ l) (m.length : Nat) 0 := ⟨_, rfl⟩
    rw [show askF (t.G.1, t.G.2) (m ++ l) (m.length : Nat) 0 = (hz, vz) from hRz.symm]
    have HASK' := HASX.out
    rw [← hRz] at HASK'
    clear HASX hRz
    obtain ⟨s2, e2, _, _, hvz⟩ := hitC_parts hz
    rw [hvz]
    go_upto_region 15 with fail
    obtain ⟨W, hW⟩ : ∃ W, W = W7.alloc (.cells #[.bool hz.isSome, .int .i64 (s2 : Nat), .int .i64 (e2 : Nat), .int .i64 (vz : Nat)] 30) := ⟨_, rfl⟩
    have hC : W.heap[W7.heap.size]? = some (.cells #[.bool hz.isSome, .int .i64 (s2 : Nat), .int .i64 (e2 : Nat), .int .i64 (vz : Nat)] 30 (0, 0)) := by rw [hW]; exact alloc_last W7 _
    have hA := blk_alloc HHA.out (.cells #[.bool hz.isSome, .int .i64 (s2 : Nat), .int .i64 (e2 : Nat), .int .i64 (vz : Nat)] 30)
    have hB := blk_alloc HHB.out (.cells #[.bool hz.isSome, .int .i64 (s2 : Nat), .int .i64 (e2 : Nat), .int .i64 (vz : Nat)] 30)
    have HBZ : Hid (Below wr.heap.size wr W) := Lib.hid (by rw [hW]; exact HB1.out.trans ((HBI.out.alloc HBI.out.size _).mono HB1.out.size))
    rw [← hW] at hA hB ⊢
    clear HBI HB67 HHA HHB hW HLO HLS HLM HA
    generalize W7.heap.size = gC at *
    have a0 : W.cell? ⟨gA, 0, none⟩ = some (.bool hx.isSome) := (Lib.cell_of_heap hA 0).trans rfl
    have a2 : W.cell? ⟨gA, 2, none⟩ = some (.int .i64 (e0 : Nat)) := (Lib.cell_of_heap hA 2).trans rfl
    have b0 : W.cell? ⟨gB, 0, none⟩ = some (.bool hy.isSome) := (Lib.cell_of_heap hB 0).trans rfl
    have b2 : W.cell? ⟨gB, 2, none⟩ = some (.int .i64 (e1 : Nat)) := (Lib.cell_of_heap hB 2).trans rfl
    have c0 : W.cell? ⟨gC, 0, none⟩ = some (.bool hz.isSome) := (Lib.cell_of_heap hC 0).trans rfl
    have c1 : W.cell? ⟨gC, 1, none⟩ = some (.int .i64 (s2 : Nat)) := (Lib.cell_of_heap hC 1).trans rfl
    have c2 : W.cell? ⟨gC, 2, none⟩ = some (.int .i64 (e2 : Nat)) := (Lib.cell_of_heap hC 2).trans rfl
    have az := lt_blkB hA
    have bz := lt_blkB hB
    have cz := lt_blkB hC
    clear hA hB hC
    rcases HASK' with ⟨rfl, rfl⟩ | ⟨x2, y2, rfl, rfl, hle, hxl, rfl⟩
    ·rw [Option.isSome_none] at a0 c0
     clear hval hvy hvz
     go_wp2_with fail
     refine (HAW.out W HBZ.out).mono ?_
     rintro x w9 ⟨rfl, hb9⟩
     have HB10 := Lib.hid (HBZ.out.trans (hb9.mono HBZ.out.size))
     clear hb9
     go_wp2
     go_ret
     exact ⟨rfl, HB10.out⟩
    ·have q1 : e0 = x2 := by have := hval vx; rw [hitV_some] at this; simp only [Value.agg.injEq] at this; simp at this; omega
     have q2 : e1 = y2 := by have := hvy vy; rw [hitV_some] at this; simp only [Value.agg.injEq] at this; simp at this; omega
     have q3 : s2 = m.length ∧ e2 = m.length + x2 := by have := hvz vz; rw [hitV_some] at this; simp only [Value.agg.injEq] at this; simp at this; omega
     obtain ⟨rfl, rfl⟩ := q3
     subst q1 q2
     rw [Option.isSome_some] at a0 b0 c0
     rw [Int.natCast_add] at c2
     have hle' : ¬ (e1 : Int) < (e0 : Int) := by omega
     have hx1 : (m.length : Int) + (e0 : Int) ≤ 9223372036854775807 := by omega
     have hx0 : -9223372036854775808 ≤ (m.length : Int) + (e0 : Int) := by omega
     clear hval hvy hvz
     go_wp2_with fail
     refine (HAW.out W HBZ.out).mono ?_
     rintro x w9 ⟨rfl, hb9⟩
     have HB10 := Lib.hid (HBZ.out.trans (hb9.mono HBZ.out.size))
     clear hb9
     go_wp2
     go_ret
     exact ⟨rfl, HB10.out⟩
end Go.Proofs.YtnecadgoiolpgaaGreatDoor
