/- The walk of the statement on what While and Until pass in turns. -/
import Derived.Test.YtnpjbpchnkobnaaScReturns
import Derived.Test.YtnpjbpchnkobnaaRows
namespace Go.Proofs.Ytnpjbpchnkobnaa
open Go.RowKit

theorem passN_spec (s t : ByteArray) (q : Bool) (k : Nat) (hk : k ≤ s.size) : k + passN s t q k ≤ s.size ∧ (∀ i, i < passN s t q k → inB (atB s (k + i)) (bys t) = q) ∧ (k + passN s t q k < s.size → ¬ inB (atB s (k + passN s t q k)) (bys t) = q) := by
  obtain ⟨h1, h2, h3⟩ := stopN_is (passB s t q k) (s.size - k)
  unfold passN
  refine ⟨by omega, fun i hi => ?_, fun hlt => ?_⟩
  · have := h2 i hi
    unfold passB at this
    simpa using this
  · have h := h3 (by omega)
    have e : passB s t q k (stopN (passB s t q k) (s.size - k)) = (inB (atB s (k + stopN (passB s t q k) (s.size - k))) (bys t) == q) := rfl
    rw [e] at h
    simpa using h

/-- In a round something is passed, if something is left. -/
theorem pass_goes (s t : ByteArray) (k : Nat) (hk : k < s.size) : 0 < passN s t true k + passN s t false (k + passN s t true k) := by
  obtain ⟨h1, h2, h3⟩ := passN_spec s t true k (by omega)
  by_cases h0 : passN s t true k = 0
  · rw [h0, Nat.add_zero, Nat.zero_add]
    rw [h0, Nat.add_zero] at h3
    obtain ⟨g1, g2, g3⟩ := passN_spec s t false k (by omega)
    rcases Nat.eq_zero_or_pos (passN s t false k) with e | e
    · rw [e, Nat.add_zero] at g3
      have a := h3 hk
      have b := g3 hk
      cases hb : inB (atB s k) (bys t) with
      | true => exact absurd hb a
      | false => exact absurd hb b
    · exact e
  · omega

theorem row_news {w : World} {nb d cap : Nat} {L : List Int} (h : Sl w (.slice (some ⟨nb, 0, none⟩) d cap) L) (hd : L.length = d) : ∀ j u, (L.map (Value.int .u8))[j]? = some u → w.cell? ((⟨nb, 0, none⟩ : Addr).add j) = some u := by
  obtain ⟨_, _, ⟨rfl, _, _, _⟩ | ⟨b, o, cap', he, _, _, hr⟩⟩ := h
  · intro j u hj; simp at hj
  · simp only [Value.slice.injEq, Option.some.injEq, Addr.mk.injEq] at he
    obtain ⟨⟨rfl, rfl, _⟩, _, rfl⟩ := he
    intro j u hj
    have hlt : j < L.length := by
      have := (List.getElem?_eq_some_iff.1 hj).1
      simpa using this
    rw [WideShapes.add_plain, hr j hlt]
    rw [List.getElem?_map, List.getElem?_eq_getElem hlt] at hj
    simp only [Option.map_some, Option.some.injEq] at hj
    rw [← hj, List.getD, List.getElem?_eq_getElem hlt]
    rfl

theorem Sl.grown {w w' : World} {nb d cap : Nat} {L : List Int} {row : Option Nat} (h : Sl w (.slice (some ⟨nb, 0, none⟩) d cap) L) (hg : w.grownBy w' row) (hr : some nb ≠ row) : Sl w' (.slice (some ⟨nb, 0, none⟩) d cap) L := by
  obtain ⟨hy, hl, ⟨rfl, a, c, he⟩ | ⟨b, o, cap', he, hcl, hcm, hr'⟩⟩ := h
  · exact ⟨hy, hl, Or.inl ⟨rfl, a, c, he⟩⟩
  · refine ⟨hy, hl, Or.inr ⟨b, o, cap', he, hcl, hcm, fun i hi => ?_⟩⟩
    have e : b = nb := by
      simp only [Value.slice.injEq, Option.some.injEq, Addr.mk.injEq] at he
      exact he.1.1.symm
    exact hg.cell (hr' i hi) (by rw [e]; exact hr)
theorem one_cells (L : List Int) : ∀ u ∈ L.map (Value.int .u8), u.oneCell' = true := by
  intro u hu
  obtain ⟨n, _, rfl⟩ := List.mem_map.1 hu
  rfl
theorem row_of {w : World} {nb d cap : Nat} {L : List Int} (h : Sl w (.slice (some ⟨nb, 0, none⟩) d cap) L) : Row w nb 0 L := by
  obtain ⟨_, _, ⟨rfl, _, _, _⟩ | ⟨b, o, cap', he, _, _, hr⟩⟩ := h
  · intro i hi; simp at hi
  · simp only [Value.slice.injEq, Option.some.injEq, Addr.mk.injEq] at he
    obtain ⟨⟨rfl, rfl, _⟩, _, rfl⟩ := he
    exact hr
theorem cut_len (s : ByteArray) (j d : Nat) (h : j + d ≤ s.size) : (((bys s).drop j).take d).length = d := by rw [List.length_take, List.length_drop, bys_length]; omega
theorem cut_at (s : ByteArray) (j d q : Nat) (h : q < d) : (((bys s).drop j).take d).getD q 0 = atB s (j + q) := by
  unfold atB
  simp [List.getD, h]
theorem take_cut (l : List Int) (j d : Nat) : l.take j ++ (l.drop j).take d = l.take (j + d) := by rw [List.take_add]

set_option maxRecDepth 100000 in
set_option maxHeartbeats 8000000 in
theorem lawCuts_any (v : Value) (l : List Int) (t : ByteArray) (w : World) (hs : Sl w v l) (hreach : l.length ≤ 140737488351232) (ht : t.size ≤ 9223372036854775807) :
    Calls Try.prog 7 #[v, .string t] w fun e w' => e = .returned (.bool true) ∧ Below w.heap.size w w' := by
  obtain ⟨va, vc, rfl, hvc⟩ := hs.shape
  have HS := Lib.hid hs
  have hlen := hs.2.1
  have HN := Lib.hid (cnew_any _ l w hs)
  have HC0 := Lib.hid (Cur.new w l hlen)
  obtain ⟨i0, hi, hz0, hz1, hz2⟩ := info_parts info8
  clear hs
  go_enter Try.func7, Try.ntmps7
  go_wp2_with fail
  refine HN.out.mono ?_
  rintro e w1 ⟨rfl, rfl⟩
  go_wp2_with fail
  have hss : (ofBys l).size = l.length := ofBys_size l
  have HSS := Lib.hid hss
  have HBO := Lib.hid (bys_ofBys HS.out.1)
  clear hss
  have HW1 : Hid (w.heap.size < (w.alloc (.cells #[.string (ofBys l), .int .i64 0] 49)).heap.size) := HC0.out.facts.2.2.2.2
  have HW2 : Hid ((w.alloc (.cells #[.string (ofBys l), .int .i64 0] 49)).heap.size = w.heap.size + 1) := by show (w.heap.push _).size = _; simp
  have HW3 : Hid (Below w.heap.size w (w.alloc (.cells #[.string (ofBys l), .int .i64 0] 49))) := (Below.refl _ _).alloc (Nat.le_refl _) _
  generalize w.alloc (.cells #[.string (ofBys l), .int .i64 0] 49) = w1 at *
  go_loopw [6, 7] (fun all i wr => ∃ k j : Nat, k ≤ j ∧ j ≤ l.length ∧ (j < l.length ∨ k = 0) ∧ i = .int .i64 k ∧ Mv w.heap.size (ofBys l) j w1 wr ∧ wr.ownsRow (w.heap.size + 1) 5 1 all j ((l.take j).map (Value.int .u8))) (fun _ i _ => (l.length + 1 - intOf i).toNat)
  case atStart => exact ⟨0, 0, Nat.le_refl _, Nat.zero_le _, Or.inr rfl, rfl, Mv.refl HC0.out, World.ownsRow_nil _ _ _ _⟩
  case round =>
    obtain ⟨k, j, hkj, hjl, hjk, rfl, hmv, hown⟩ := hrel
    have HM := Lib.hid hmv
    have HO := Lib.hid hown
    have HJK := Lib.hid hjk
    clear hmv hown hjk
    have hkl : (k : Int) ≤ l.length := by omega
    have HX := Lib.hid (while_any w.heap.size j (ofBys l) t wr HM.out.cur ht)
    have HP1 := Lib.hid (passN_spec (ofBys l) t true j (by rw [HSS.out]; exact hjl))
    have HP2 := Lib.hid (passN_spec (ofBys l) t false (j + passN (ofBys l) t true j) HP1.out.1)
    have HPG := Lib.hid (pass_goes (ofBys l) t j)
    generalize passN (ofBys l) t true j = d1 at HX HP1 HP2 HPG
    go_wp2_with fail
    refine HX.out.mono ?_
    rintro e wa ⟨nb1, cap1, rfl, hsl1, hnb1, hnb1', hma⟩
    have HMA := Lib.hid hma
    have HS1 := Lib.hid hsl1
    have HNB1 := Lib.hid (And.intro hnb1 hnb1')
    clear hma hsl1 hnb1 hnb1'
    go_wp2_with fail
    have HX2 := Lib.hid (until_any w.heap.size (j + d1) (ofBys l) t wa HMA.out.cur ht)
    generalize passN (ofBys l) t false (j + d1) = d2 at HX2 HP2 HPG
    refine HX2.out.mono ?_
    rintro e wb ⟨nb2, cap2, rfl, hsl2, hnb2, hnb2', hmb⟩
    have HMB := Lib.hid hmb
    have HS2 := Lib.hid hsl2
    have HNB2 := Lib.hid (And.intro hnb2 hnb2')
    clear hmb hsl2 hnb2 hnb2' HX HX2
    have HB1 : Hid (w.heap.size < wr.heap.size) := HM.out.cur.facts.2.2.2.2
    have HSL1 : Hid (Sl wb (.slice (some ⟨nb1, 0, none⟩) d1 cap1) (((bys (ofBys l)).drop j).take d1)) := HS1.out.mv HMB.out (fun x o n cap he => by
      simp only [Value.slice.injEq, Option.some.injEq, Addr.mk.injEq] at he
      have h1 := he.1.1
      have h2 := HNB1.out.1
      have h3 := HB1.out
      omega)
    have hd1b : d1 ≤ 9223372036854775807 := by have := HP1.out.1; rw [HSS.out] at this; omega
    have hd2b : d2 ≤ 9223372036854775807 := by have := HP2.out.1; rw [HSS.out] at this; omega
    have HL1 := Lib.hid (cut_len (ofBys l) j d1 HP1.out.1)
    have HL2 := Lib.hid (cut_len (ofBys l) (j + d1) d2 HP2.out.1)
    go_wp2_with fail
    go_loop [32] (fun i => ∃ q : Nat, q ≤ d1 ∧ i = .int .i64 q) (fun i => d1 - (intOf i).toNat)
    case atStart => exact ⟨0, Nat.zero_le _, rfl⟩
    case round =>
      obtain ⟨q, hq, rfl⟩ := hrel
      by_cases hqd : q < d1
      · have hcell := row_of HSL1.out q (by rw [HL1.out]; exact hqd)
        have hby := (bys_byt (ofBys l)) (j + q)
        have hI := in_any (atB (ofBys l) (j + q)) t wb ht
        rw [HP1.out.2.1 q hqd] at hI
        rw [Nat.zero_add, cut_at _ _ _ _ hqd] at hcell
        have HI := Lib.hid hI
        clear hI hby
        generalize atB (ofBys l) (j + q) = c at HI hcell
        go_wp2_with fail
        refine HI.out.mono ?_; rintro e w' ⟨rfl, rfl⟩
        go_wp2_with fail
        go_round
        case rel => exact ⟨q + 1, by omega, by go_num⟩
        case measure => simp [intOf]; omega
      · obtain rfl : q = d1 := by omega
        go_wp2_with fail
        go_loop [43] (fun i => ∃ p : Nat, p ≤ d2 ∧ i = .int .i64 p) (fun i => d2 - (intOf i).toNat)
        case atStart => exact ⟨0, Nat.zero_le _, rfl⟩
        case round =>
          obtain ⟨p, hp, rfl⟩ := hrel
          by_cases hpd : p < d2
          · have hcell := row_of HS2.out p (by rw [HL2.out]; exact hpd)
            have hI := in_any (atB (ofBys l) (j + q + p)) t wb ht
            rw [HP2.out.2.1 p hpd] at hI
            rw [Nat.zero_add, cut_at _ _ _ _ hpd] at hcell
            have HI := Lib.hid hI
            clear hI
            generalize atB (ofBys l) (j + q + p) = c at HI hcell
            go_wp2_with fail
            refine HI.out.mono ?_; rintro e w' ⟨rfl, rfl⟩
            go_wp2_with fail
            go_round
            case rel => exact ⟨p + 1, by omega, by go_num⟩
            case measure => simp [intOf]; omega
          · obtain rfl : p = d2 := by omega
            have HOB : Hid (wb.ownsRow (w.heap.size + 1) 5 1 u6 j ((l.take j).map (Value.int .u8))) := by
              have h1 := HO.out.kept HMA.out.grown (Or.inr fun e => by have := (HO.out.lt _ e).1; omega)
              exact h1.kept HMB.out.grown (Or.inr fun e => by have := (HO.out.lt _ e).1; omega)
            have HLN : Hid (j + q + p ≤ l.length) := by have := HP2.out.1; rw [HSS.out] at this; exact this
            have HBB : Hid (w.heap.size + 1 ≤ wb.heap.size) := HMB.out.cur.facts.2.2.2.2
            go_wp2_with (at_builtin; refine wpList_append_own _ rfl (.tmp 51) (.tmp 52) 22 rfl (w.heap.size + 1) 5 i0 (.int .u8 0) 1 1 Try.underlying22 hi hz0 hz1 hz2 rfl (by decide) u6 j _ rfl HOB.out ⟨nb1, 0, none⟩ q cap1 _ rfl ?c0 (row_news HSL1.out HL1.out) ?c2 ?c3 ?c4 HBB.out ?_)
            case c0 => simpa using HL1.out
            case c2 => simpa only [List.map_take, List.map_drop] using one_cells (((bys (ofBys l)).drop j).take q)
            case c3 => have := HLN.out; unfold maxLen; omega
            case c4 => have := HLN.out; omega
            intro v' w2 hown2 hgrow _
            have hw2 : w.heap.size + 1 ≤ w2.heap.size := Nat.le_trans HBB.out hgrow.size
            have hrow1 : ∀ x, u6.ownBlock = some x → w.heap.size + 1 ≤ x ∧ x < wr.heap.size := fun x hx => HO.out.lt _ hx
            have HSL2 : Hid (Sl w2 (.slice (some ⟨nb2, 0, none⟩) p cap2) (((bys (ofBys l)).drop (j + q)).take p)) := HS2.out.grown hgrow (fun e => by
              have h1 := (hrow1 _ e.symm).2
              have h2 := HNB2.out.1
              have h3 := HMA.out.1.size
              omega)
            have HMW2 : Hid (Mv w.heap.size (ofBys l) (j + q + p) w1 w2) := ((HM.out.trans HMA.out).trans HMB.out).grownAt hgrow (fun x hx => by have := (hrow1 x hx).1; have := HW2.out; omega) HW1.out
            have HO2 := Lib.hid hown2
            clear hown2 hgrow hrow1
            go_wp2_with (at_builtin; refine wpList_append_own _ rfl (.tmp 53) (.tmp 54) 22 rfl (w.heap.size + 1) 5 i0 (.int .u8 0) 1 1 Try.underlying22 hi hz0 hz1 hz2 rfl (by decide) v' (j + q) _ rfl HO2.out ⟨nb2, 0, none⟩ p cap2 _ rfl ?e0 (row_news HSL2.out HL2.out) ?e2 ?e3 ?e4 hw2 ?_)
            case e0 => simpa using HL2.out
            case e2 => simpa only [List.map_take, List.map_drop] using one_cells (((bys (ofBys l)).drop (j + q)).take p)
            case e3 => have := HLN.out; unfold maxLen; omega
            case e4 => have := HLN.out; omega
            intro v'' w3 hown3 hgrow3 _
            have HMW3 : Hid (Mv w.heap.size (ofBys l) (j + q + p) w1 w3) := HMW2.out.grownAt hgrow3 (fun x hx => by have := (HO2.out.lt _ hx).1; have := HW2.out; omega) HW1.out
            have HO3 : Hid (w3.ownsRow (w.heap.size + 1) 5 1 v'' (j + q + p) ((l.take (j + q + p)).map (Value.int .u8))) := by
              have e1 : (l.take (j + q + p)).map (Value.int .u8) = (l.take j).map (Value.int .u8) ++ ((l.drop j).take q).map (Value.int .u8) ++ ((l.drop (j + q)).take p).map (Value.int .u8) := by
                rw [← take_cut l (j + q) p, ← take_cut l j q, List.map_append, List.map_append]
              rw [HBO.out] at hown3
              rw [e1]
              simp only [List.map_take, List.map_drop, List.append_assoc]
              try simp only [List.map_take, List.map_drop, List.append_assoc] at hown3
              exact hown3
            clear hown3 hgrow3
            go_wp2_with fail
            have HLF := Lib.hid (left_any _ (j + q + p) _ _ HMW3.out.cur)
            rw [HSS.out] at HLF
            by_cases hfin : j + q + p = l.length
            · rw [hfin, Nat.sub_self] at HLF
              refine HLF.out.mono ?_
              rintro e w4 ⟨rfl, hm4⟩
              have hm4' : Mv w.heap.size (ofBys l) l.length w3 w4 := hm4
              have hmw := HMW3.out
              rw [hfin] at hmw
              have HM4 := Lib.hid (hmw.trans hm4')
              have ho4 := HO3.out.kept hm4'.grown (Or.inr fun e => by have := (HO3.out.lt _ e).1; omega)
              rw [hfin, List.take_of_length_le (Nat.le_refl _)] at ho4
              have hsla := sl_owned ho4 HS.out.1 hlen
              have hslb : Sl w4 (.slice va l.length vc) l := HS.out.old fun i hi => ((HM4.out.2.2 i (by have := HW2.out; omega) (by omega)).trans (HW3.out.block i hi))
              have HBY := Lib.hid (bytes_any _ _ l l w4 hsla hslb)
              clear hm4 hm4' hmw ho4 hsla hslb hfin
              rw [decide_eq_true (rfl : l = l)] at HBY
              go_wp2_with fail
              refine HBY.out.mono ?_
              rintro e w' ⟨rfl, rfl⟩
              go_wp2_with fail
              refine (awake_any _).mono ?_; rintro e wg ⟨rfl, hg⟩
              have HG := Lib.hid hg
              clear hg
              go_wp2
              go_ret
              exact ⟨rfl, (HW3.out.trans HM4.out.1).trans (HG.out.mono (Nat.le_trans HW3.out.size HM4.out.1.size))⟩
            · have hlt : j + q + p < l.length := by have := HLN.out; omega
              have HPOS : Hid (0 < q + p) := HPG.out (by rw [HSS.out]; omega)
              refine HLF.out.mono ?_
              rintro e w4 ⟨rfl, hm4⟩
              have HR : Hid (∃ k' j' : Nat, k' ≤ j' ∧ j' ≤ l.length ∧ (j' < l.length ∨ k' = 0) ∧ Value.int .i64 ((k : Int) + 1) = .int .i64 k' ∧ Mv w.heap.size (ofBys l) j' w1 w4 ∧ w4.ownsRow (w.heap.size + 1) 5 1 v'' j' ((l.take j').map (Value.int .u8))) := by
                refine ⟨k + 1, j + q + p, ?_, by omega, Or.inl hlt, by go_num, HMW3.out.trans hm4, HO3.out.kept hm4.grown (Or.inr fun e => by have := (HO3.out.lt _ e).1; omega)⟩
                have := HPOS.out
                omega
              have hne : ¬ ((l.length - (j + q + p) : Nat) : Int) = 0 := by omega
              clear hm4
              go_wp2_with fail
              go_roundw
              case rel => exact HR.out
              case measure => simp [intOf]; omega

theorem scanCuts_open {H : Type} {enc : TypeId × Value → H} {d0 d1 : DataW H} {p0 p1 : List MemPlace} (W : World) (base : Nat) (v0 v1 : Value)
    (h0 : DataW.Trod enc Try.prog W 0 (fun _ => true) true 22 v0 d0 p0) (h1 : DataW.Trod enc Try.prog W 0 (fun _ => true) true 9 v1 d1 p1)
    (k0 : Value.okWide Try.prog W .any base 22 v0) (k1 : Value.okWide Try.prog W .any base 9 v1) (hsz : (DataW.weightsEach Try.prog ([22, 9] ++ Rows.scanCutsSpec.plain.varTypes Try.prog) ([d0, d1] ++ [])).all (· ≤ reachBytes) = true) :
    Calls Try.prog 7 #[v0, v1] W fun e W' => e = .returned (.bool true) ∧ Below W.heap.size W W' := by
  obtain ⟨l, hs, hw⟩ := sl_of_w k0 h0
  obtain ⟨s, rfl, _, _, ht⟩ := Go.ChangeMaps.open_string Try.underlying9 k1 h1
  exact lawCuts_any v0 l s W hs (hw _ _ 0 hsz rfl rfl) ht
end Go.Proofs.Ytnpjbpchnkobnaa
