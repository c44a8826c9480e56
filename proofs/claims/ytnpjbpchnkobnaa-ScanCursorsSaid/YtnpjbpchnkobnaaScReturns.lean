/- The walk of the statement on a cursor's returns. -/
import Derived.Test.YtnpjbpchnkobnaaScMore
import Derived.Laws.AppendOwn
import Derived.OwnWalk
import Derived.Deep.RegionHeld3
namespace Go.Proofs.Ytnpjbpchnkobnaa
open Go.RowKit

theorem info8 : (Try.prog.info? 5).map (fun i => (i.zero, i.size, i.bytes)) = some (some (.int .u8 0), 1, 1) := by kernel_rfl

theorem Sl.old {w w' : World} {v : Value} {l : List Int} (h : Sl w v l) (hb : ∀ i, i < w.heap.size → w'.heap[i]? = w.heap[i]?) : Sl w' v l := by
  obtain ⟨hy, hl, ⟨rfl, a, cap, rfl⟩ | ⟨x, o, cap, rfl, hcl, hcm, hr⟩⟩ := h
  · exact ⟨hy, hl, Or.inl ⟨rfl, a, cap, rfl⟩⟩
  · refine ⟨hy, hl, Or.inr ⟨x, o, cap, rfl, hcl, hcm, fun i hi => ?_⟩⟩
    have hc := hr i hi
    have hlt : x < w.heap.size := by
      rcases Nat.lt_or_ge x w.heap.size with h' | h'
      · exact h'
      · simp [World.cell?, Array.getElem?_eq_none h'] at hc
    rw [World.cell?_of_block (w := w) (hb x hlt)]
    exact hc

theorem Cur.new (w : World) (l : List Int) (hl : l.length ≤ 9223372036854775807) : Cur (w.alloc (.cells #[.string (ofBys l), .int .i64 0] 49)) w.heap.size (ofBys l) 0 := by
  refine ⟨?_, Nat.zero_le _, by rw [ofBys_size]; exact hl⟩
  show (w.heap.push _)[w.heap.size]? = _
  simp

theorem owned_shape {w : World} {base : Nat} {e : TypeId} {v : Value} {n : Nat} {xs : List Value} (h : w.ownsRow base e 1 v n xs) : ∃ a cap, v = .slice a n cap := by
  obtain ⟨_, ⟨rfl, rfl⟩ | ⟨g, cap, cur, rfl, _⟩⟩ := h
  · exact ⟨none, 0, rfl⟩
  · exact ⟨_, cap, rfl⟩
theorem sl_owned {w : World} {base : Nat} {e : TypeId} {v : Value} {n : Nat} {L : List Int} (h : w.ownsRow base e 1 v n (L.map (Value.int .u8))) (hy : Byt L) (hl : L.length ≤ 9223372036854775807) : Sl w v L := by
  obtain ⟨h1, ⟨rfl, rfl⟩ | ⟨g, cap, cur, rfl, _, hb, hc, hm, hs, ht⟩⟩ := h
  · have : L = [] := List.length_eq_zero_iff.1 (by simpa using h1)
    exact ⟨hy, hl, Or.inl ⟨this, none, 0, rfl⟩⟩
  · have hn : L.length = n := by simpa using h1
    refine ⟨hy, hl, Or.inr ⟨g, 0, cap, by rw [hn], by omega, by unfold maxLen at hm; omega, fun i hi => ?_⟩⟩
    rw [Nat.zero_add]
    have e1 : w.cell? ⟨g, i, none⟩ = cur[i]? := by simp [World.cell?, hb]
    have e2 : (cur.toList.take (n * 1))[i]? = (L.map (Value.int .u8))[i]? := by rw [ht]
    rw [List.getElem?_take, if_pos (by omega)] at e2
    rw [e1, ← Array.getElem?_toList, e2]
    simp [List.getD, List.getElem?_eq_getElem hi]
theorem Sl.shape {w : World} {v : Value} {l : List Int} (h : Sl w v l) : ∃ a cap, v = .slice a l.length cap ∧ l.length ≤ cap := by
  obtain ⟨_, _, ⟨rfl, a, cap, rfl⟩ | ⟨b, o, cap, rfl, hcl, _, _⟩⟩ := h
  · exact ⟨a, cap, rfl, Nat.zero_le _⟩
  · exact ⟨_, cap, rfl, hcl⟩
theorem byt_take {l : List Int} (h : Byt l) (j : Nat) : Byt (l.take j) := fun i => by
  by_cases hi : i < j
  · have := h i
    rwa [show (l.take j).getD i 0 = l.getD i 0 by simp [List.getD, hi]]
  · rw [List.getD, List.getElem?_eq_none (by simp; omega)]; simp
theorem Sl.take {w : World} {a : Option Addr} {n cap : Nat} {l : List Int} (h : Sl w (.slice a n cap) l) (j : Nat) (hj : j ≤ l.length) : Sl w (.slice a j cap) (l.take j) := by
  obtain ⟨hy, hl, ⟨rfl, a', cap', he⟩ | ⟨b, o, cap', he, hcl, hcm, hr⟩⟩ := h
  · have : j = 0 := by simpa using hj
    subst this
    exact ⟨byt_take hy 0, by simp, Or.inl ⟨rfl, a, cap, rfl⟩⟩
  · simp only [Value.slice.injEq] at he
    obtain ⟨rfl, rfl, rfl⟩ := he
    refine ⟨byt_take hy j, by simp; omega, Or.inr ⟨b, o, cap, by simp; omega, by simp; omega, hcm, fun i hi => ?_⟩⟩
    simp at hi
    have hij : i < j := by omega
    rw [hr i (by omega), show (l.take j).getD i 0 = l.getD i 0 by simp [List.getD, hij]]
theorem Sl.heap {w w' : World} {v : Value} {l : List Int} (h : Sl w v l) (hw : w'.heap = w.heap) : Sl w' v l := h.old fun i _ => by rw [hw]

theorem begB_self (s : ByteArray) : begB (s.extract 0 s.size) s = true := by
  have e : s.extract 0 s.size = s := by apply bys_inj; rw [bys_extract, List.drop_zero, List.take_of_length_le (by rw [bys_length]; exact Nat.le_refl _)]
  unfold begB
  rw [e]
  simp [e]

theorem Mv.grownAt {w w' w2 : World} {b k : Nat} {s : ByteArray} {row : Option Nat} (h : Mv b s k w w') (hg : w'.grownBy w2 row) (hr : ∀ x, row = some x → w.heap.size ≤ x) (hb : b < w.heap.size) : Mv b s k w w2 := by
  have hk : ∀ i, i < w.heap.size → w2.heap[i]? = w'.heap[i]? := fun i hi => hg.block i (Nat.lt_of_lt_of_le hi h.1.size) (fun e => by have := hr i e.symm; omega)
  exact ⟨⟨hg.os.trans h.1.os, hg.tape.trans h.1.tape, hg.output.trans h.1.output, Nat.le_trans h.1.size hg.size, fun i hi => (hk i (by omega)).trans (h.1.block i hi)⟩, ⟨by rw [hk b hb]; exact h.2.1.1, h.2.1.2⟩, fun i hi hn => (hk i hi).trans (h.2.2 i hi hn)⟩

set_option maxRecDepth 100000 in
set_option maxHeartbeats 8000000 in
theorem lawReturns_any (v : Value) (l : List Int) (n : Int) (t : ByteArray) (w : World) (hs : Sl w v l) (ht : t.size ≤ 9223372036854775807) :
    Calls Try.prog 8 #[v, .int .i64 n, .string t] w fun e w' => e = .returned (.bool true) ∧ Below w.heap.size w w' := by
  obtain ⟨va, vc, rfl, hvc⟩ := hs.shape
  have HS := Lib.hid hs
  have hlen := hs.2.1
  have HN := Lib.hid (cnew_any _ l w hs)
  have HC0 := Lib.hid (Cur.new w l hlen)
  obtain ⟨i0, hi, hz0, hz1, hz2⟩ := info_parts info8
  clear hs
  have hm1 : -49 ≤ n.tmod 50 := by have := Int.tmod_lt_of_pos (-n) (show (0 : Int) < 50 by omega); rw [Int.neg_tmod] at this; omega
  have hm2 : n.tmod 50 ≤ 49 := by have := Int.tmod_lt_of_pos n (show (0 : Int) < 50 by omega); omega
  go_enter Try.func8, Try.ntmps8
  go_wp2_with fail
  refine HN.out.mono ?_
  rintro e w1 ⟨rfl, rfl⟩
  go_wp2_with fail
  obtain ⟨m, hm⟩ : ∃ m, m = (n.tmod 50 + 50) % 50 := ⟨_, rfl⟩
  have hm3 : 0 ≤ m := by omega
  have hm4 : m ≤ 49 := by omega
  rw [← hm]
  clear hm hm1 hm2
  have hss : (ofBys l).size = l.length := ofBys_size l
  have HSS := Lib.hid hss
  clear hss
  have HW1 : Hid (w.heap.size < (w.alloc (.cells #[.string (ofBys l), .int .i64 0] 49)).heap.size) := HC0.out.facts.2.2.2.2
  have HW2 : Hid ((w.alloc (.cells #[.string (ofBys l), .int .i64 0] 49)).heap.size = w.heap.size + 1) := by show (w.heap.push _).size = _; simp
  have HW3 : Hid (Below w.heap.size w (w.alloc (.cells #[.string (ofBys l), .int .i64 0] 49))) := (Below.refl _ _).alloc (Nat.le_refl _) _
  generalize w.alloc (.cells #[.string (ofBys l), .int .i64 0] 49) = w1 at *
  go_loopw [8, 21] (fun got i wr => ∃ j : Nat, ∃ gv : Value, got = gv ∧ (j : Int) ≤ m ∧ j ≤ l.length ∧ i = .int .i64 j ∧ Mv w.heap.size (ofBys l) j w1 wr ∧ wr.ownsRow (w.heap.size + 1) 5 1 gv j ((l.take j).map (Value.int .u8))) (fun _ i _ => (m - intOf i).toNat)
  case atStart => exact ⟨0, _, rfl, by omega, Nat.zero_le _, rfl, Mv.refl HC0.out, World.ownsRow_nil _ _ _ _⟩
  case round =>
    obtain ⟨j, gv, hgv, hjm, hjl, rfl, hmv, hown⟩ := hrel
    subst hgv
    have HM := Lib.hid hmv
    have HO := Lib.hid hown
    clear hmv hown
    by_cases hgo : (j : Int) < m ∧ j < l.length
    · obtain ⟨hg1, hg2⟩ := hgo
      have HX := Lib.hid (next_any w.heap.size j (ofBys l) wr HM.out.cur)
      have hd : j < (ofBys l).size := by rw [HSS.out]; exact hg2
      rw [decide_eq_true hd, if_pos hd] at HX
      clear hd
      go_wp2_with fail
      refine HX.out.mono ?_
      rintro e wn ⟨rfl, hmn⟩
      have HMN := Lib.hid hmn
      clear hmn
      have HON : Hid (wn.ownsRow (w.heap.size + 1) 5 1 u8 j ((l.take j).map (Value.int .u8))) := by
        refine HO.out.kept HMN.out.grown (Or.inr fun e => ?_)
        have := (HO.out.lt _ e).1
        omega
      have hB : w.heap.size + 1 ≤ wn.heap.size := HMN.out.cur.facts.2.2.2.2
      have HT : Hid ((l.take (j + 1)).map (Value.int .u8) = (l.take j).map (Value.int .u8) ++ [.int .u8 (atB (ofBys l) j)]) := by
        rw [List.take_succ_eq_append_getElem hg2, List.map_append]
        unfold atB
        rw [bys_ofBys HS.out.1, List.getD, List.getElem?_eq_getElem hg2]
        rfl
      generalize atB (ofBys l) j = c at *
      go_wp2_with (at_builtin; refine wpList_append_own _ rfl _ _ 22 rfl (w.heap.size + 1) 5 i0 (.int .u8 0) 1 1 Try.underlying22 hi hz0 hz1 hz2 rfl (by decide) u8 j _ rfl (HON.out.alloc _) ⟨wn.heap.size, 0, none⟩ 1 1 [.int .u8 c] rfl rfl ?c1 ?c2 ?c3 ?c4 ?c5 ?_)
      case c1 =>
        intro a u ha
        match a, ha with
        | 0, ha =>
          simp only [List.getElem?_cons_zero, Option.some.injEq] at ha
          subst ha
          simp [Addr.add]
        | a + 1, ha => simp at ha
      case c2 => simp [Value.oneCell']
      case c3 => unfold maxLen; omega
      case c4 => omega
      case c5 => show w.heap.size + 1 ≤ (wn.heap.push _).size; simp; omega
      intro v' w2 hown2 hgrow _
      have HR : Hid ((∃ jj : Nat, ∃ g : Value, v' = g ∧ (jj : Int) ≤ m ∧ jj ≤ l.length ∧ Value.int .i64 ((j : Int) + 1) = Value.int .i64 jj ∧ Mv w.heap.size (ofBys l) jj w1 w2 ∧ w2.ownsRow (w.heap.size + 1) 5 1 g jj ((l.take jj).map (Value.int .u8)))) := by
        refine ⟨j + 1, v', rfl, by omega, by omega, by go_num, ?_, by rw [HT.out, List.map_take]; exact hown2⟩
        refine ((HM.out.trans HMN.out).alloc _).grownAt hgrow (fun x hx => ?_) HW1.out
        have := (HO.out.lt _ hx).1
        rw [HW2.out]
        exact this
      clear hown2 hgrow
      go_wp2
      go_roundw
      case rel => exact HR.out
      case measure => simp [intOf]; omega
    · have hend : (m = (j : Int) ∧ ¬ (l.length : Int) < j) ∨ ((j : Int) < m ∧ j = l.length) := by omega
      have hsg := sl_owned HO.out (byt_take HS.out.1 j) (by simp; omega)
      obtain ⟨ga, gc, hu⟩ := owned_shape HO.out
      subst hu
      have hsb : Sl wr (.slice va l.length vc) l := HS.out.old fun i hi => ((HM.out.2.2 i (by have := HW2.out; omega) (by omega)).trans (HW3.out.block i hi))
      have hst := hsb.take j hjl
      have k1 : ∀ q, (convert 22 9 (.slice ga j gc)).run Try.prog (wr.drewN q) = .ok (.string (ofBys (l.take j))) (wr.drewN q) := fun q => conv_string (hsg.heap rfl)
      have k2 : ∀ q, (convert 22 9 (.slice va j vc)).run Try.prog (wr.drewN q) = .ok (.string (ofBys (l.take j))) (wr.drewN q) := fun q => conv_string (hst.heap rfl)
      clear hsg hst hsb
      rcases hend with ⟨rfl, hj⟩ | ⟨hj, rfl⟩
      · skip
        go_wp2_with fail
        go_quiet (fail)
        have HMQ := Lib.hid (HM.out.drewAt nq)
        go_wp2_with fail
        refine (pos_any _ j _ _ HMQ.out.cur).mono ?_; rintro e w' ⟨rfl, rfl⟩
        go_wp2_with fail
        have HT1 := Lib.hid (take_any _ j _ t _ HMQ.out.cur ht)
        have HSA : Hid (∀ k' wz, Mv w.heap.size (ofBys l) k' w1 wz → Sl wz (.slice va l.length vc) l) := fun k' wz hm => HS.out.old fun i hi => ((hm.2.2 i (by have := HW2.out; omega) (by omega)).trans (HW3.out.block i hi))
        have HBEG : Hid (begB ((ofBys l).extract 0 (ofBys l).size) (ofBys l) = true) := begB_self _
        cases hx : begB ((ofBys l).extract j (ofBys l).size) t with
        | true =>
          rw [hx, if_pos rfl] at HT1
          clear hx
          refine HT1.out.mono ?_; rintro e wa ⟨rfl, ha⟩
          have HA := Lib.hid ha
          clear ha
          go_wp2_with fail
          refine (back_yes _ (j + t.size) t.size _ _ HA.out.cur (by omega)).mono ?_; rintro e wb ⟨rfl, hb⟩
          rw [Nat.add_sub_cancel] at hb
          have HMB := Lib.hid ((HMQ.out.trans HA.out).trans hb)
          clear hb
          go_wp2_with fail
          refine (pos_any _ j _ _ HMB.out.cur).mono ?_; rintro e w' ⟨rfl, rfl⟩
          go_wp2_with fail
          refine (back_yes _ j j _ _ HMB.out.cur (Nat.le_refl _)).mono ?_; rintro e wc ⟨rfl, hc⟩
          rw [Nat.sub_self] at hc
          have HMC := Lib.hid (HMB.out.trans hc)
          clear hc
          go_wp2_with fail
          refine (pos_any _ 0 _ _ HMC.out.cur).mono ?_; rintro e w' ⟨rfl, rfl⟩
          go_wp2_with fail
          refine (back_no _ 0 1 _ _ HMC.out.cur (Or.inr (by omega))).mono ?_; rintro e wd ⟨rfl, hd⟩
          have HMD := Lib.hid (HMC.out.trans hd)
          clear hd
          have k3 := conv_string (HSA.out 0 _ HMD.out)
          go_wp2_with fail
          refine (take_any _ 0 _ (ofBys l) _ HMD.out.cur (by rw [HSS.out]; exact hlen)).mono ?_; rintro e we ⟨rfl, he⟩
          clear k3
          rw [HBEG.out, if_pos rfl, Nat.zero_add] at he
          rw [HBEG.out]
          have HME := Lib.hid (HMD.out.trans he)
          clear he
          go_wp2_with fail
          refine (left_any _ _ _ _ HME.out.cur).mono ?_; rintro e wf ⟨rfl, hf⟩
          rw [Nat.sub_self]
          have HMF := Lib.hid (HME.out.trans hf)
          clear hf
          go_wp2_with fail
          refine (awake_any _).mono ?_; rintro e wg ⟨rfl, hg⟩
          have HG := Lib.hid hg
          clear hg
          go_wp2
          go_ret
          exact ⟨rfl, (HW3.out.trans HMF.out.1).trans (HG.out.mono (Nat.le_trans HW3.out.size HMF.out.1.size))⟩
        | false =>
          rw [hx, if_neg (by simp)] at HT1
          clear hx
          refine HT1.out.mono ?_; rintro e wa ⟨rfl, ha⟩
          have HMB := Lib.hid (HMQ.out.trans ha)
          clear ha
          go_wp2_with fail
          refine (back_yes _ j j _ _ HMB.out.cur (Nat.le_refl _)).mono ?_; rintro e wc ⟨rfl, hc⟩
          rw [Nat.sub_self] at hc
          have HMC := Lib.hid (HMB.out.trans hc)
          clear hc
          go_wp2_with fail
          refine (pos_any _ 0 _ _ HMC.out.cur).mono ?_; rintro e w' ⟨rfl, rfl⟩
          go_wp2_with fail
          refine (back_no _ 0 1 _ _ HMC.out.cur (Or.inr (by omega))).mono ?_; rintro e wd ⟨rfl, hd⟩
          have HMD := Lib.hid (HMC.out.trans hd)
          clear hd
          have k3 := conv_string (HSA.out 0 _ HMD.out)
          go_wp2_with fail
          refine (take_any _ 0 _ (ofBys l) _ HMD.out.cur (by rw [HSS.out]; exact hlen)).mono ?_; rintro e we ⟨rfl, he⟩
          clear k3
          rw [HBEG.out, if_pos rfl, Nat.zero_add] at he
          rw [HBEG.out]
          have HME := Lib.hid (HMD.out.trans he)
          clear he
          go_wp2_with fail
          refine (left_any _ _ _ _ HME.out.cur).mono ?_; rintro e wf ⟨rfl, hf⟩
          rw [Nat.sub_self]
          have HMF := Lib.hid (HME.out.trans hf)
          clear hf
          go_wp2_with fail
          refine (awake_any _).mono ?_; rintro e wg ⟨rfl, hg⟩
          have HG := Lib.hid hg
          clear hg
          go_wp2
          go_ret
          exact ⟨rfl, (HW3.out.trans HMF.out.1).trans (HG.out.mono (Nat.le_trans HW3.out.size HMF.out.1.size))⟩
      · clear k1 k2
        have HX := Lib.hid (next_any w.heap.size l.length (ofBys l) wr HM.out.cur)
        have hd : ¬ l.length < (ofBys l).size := by rw [HSS.out]; omega
        rw [decide_eq_false hd, if_neg hd] at HX
        clear hd
        go_wp2_with fail
        refine HX.out.mono ?_
        rintro e wn ⟨rfl, hmn⟩
        have HMN := Lib.hid hmn
        have hon := HO.out.kept hmn.grown (Or.inr fun e => by have := (HO.out.lt _ e).1; omega)
        have hsb : Sl wn (.slice va l.length vc) l := HS.out.old fun i hi => (((HM.out.trans hmn).2.2 i (by have := HW2.out; omega) (by omega)).trans (HW3.out.block i hi))
        have hst := hsb.take l.length (Nat.le_refl _)
        have hsg := sl_owned hon (byt_take HS.out.1 l.length) (by simp; omega)
        have k1 : ∀ q, (convert 22 9 (.slice ga l.length gc)).run Try.prog (wn.drewN q) = .ok (.string (ofBys (l.take l.length))) (wn.drewN q) := fun q => conv_string (hsg.heap rfl)
        have k2 : ∀ q, (convert 22 9 (.slice va l.length vc)).run Try.prog (wn.drewN q) = .ok (.string (ofBys (l.take l.length))) (wn.drewN q) := fun q => conv_string (hst.heap rfl)
        clear hmn hon hst hsg hsb
        go_wp2_with fail
        go_quiet (fail)
        have HMQ := Lib.hid ((HM.out.trans HMN.out).drewAt nq)
        go_wp2_with fail
        refine (pos_any _ l.length _ _ HMQ.out.cur).mono ?_; rintro e w' ⟨rfl, rfl⟩
        go_wp2_with fail
        have HT1 := Lib.hid (take_any _ l.length _ t _ HMQ.out.cur ht)
        have HSA : Hid (∀ k' wz, Mv w.heap.size (ofBys l) k' w1 wz → Sl wz (.slice va l.length vc) l) := fun k' wz hm => HS.out.old fun i hi => ((hm.2.2 i (by have := HW2.out; omega) (by omega)).trans (HW3.out.block i hi))
        have HBEG : Hid (begB ((ofBys l).extract 0 (ofBys l).size) (ofBys l) = true) := begB_self _
        cases hx : begB ((ofBys l).extract l.length (ofBys l).size) t with
        | true =>
          rw [hx, if_pos rfl] at HT1
          clear hx
          refine HT1.out.mono ?_; rintro e wa ⟨rfl, ha⟩
          have HA := Lib.hid ha
          clear ha
          go_wp2_with fail
          refine (back_yes _ (l.length + t.size) t.size _ _ HA.out.cur (by omega)).mono ?_; rintro e wb ⟨rfl, hb⟩
          rw [Nat.add_sub_cancel] at hb
          have HMB := Lib.hid ((HMQ.out.trans HA.out).trans hb)
          clear hb
          go_wp2_with fail
          refine (pos_any _ l.length _ _ HMB.out.cur).mono ?_; rintro e w' ⟨rfl, rfl⟩
          go_wp2_with fail
          refine (back_yes _ l.length l.length _ _ HMB.out.cur (Nat.le_refl _)).mono ?_; rintro e wc ⟨rfl, hc⟩
          rw [Nat.sub_self] at hc
          have HMC := Lib.hid (HMB.out.trans hc)
          clear hc
          go_wp2_with fail
          refine (pos_any _ 0 _ _ HMC.out.cur).mono ?_; rintro e w' ⟨rfl, rfl⟩
          go_wp2_with fail
          refine (back_no _ 0 1 _ _ HMC.out.cur (Or.inr (by omega))).mono ?_; rintro e wd ⟨rfl, hd⟩
          have HMD := Lib.hid (HMC.out.trans hd)
          clear hd
          have k3 := conv_string (HSA.out 0 _ HMD.out)
          go_wp2_with fail
          refine (take_any _ 0 _ (ofBys l) _ HMD.out.cur (by rw [HSS.out]; exact hlen)).mono ?_; rintro e we ⟨rfl, he⟩
          clear k3
          rw [HBEG.out, if_pos rfl, Nat.zero_add] at he
          rw [HBEG.out]
          have HME := Lib.hid (HMD.out.trans he)
          clear he
          go_wp2_with fail
          refine (left_any _ _ _ _ HME.out.cur).mono ?_; rintro e wf ⟨rfl, hf⟩
          rw [Nat.sub_self]
          have HMF := Lib.hid (HME.out.trans hf)
          clear hf
          go_wp2_with fail
          refine (awake_any _).mono ?_; rintro e wg ⟨rfl, hg⟩
          have HG := Lib.hid hg
          clear hg
          go_wp2
          go_ret
          exact ⟨rfl, (HW3.out.trans HMF.out.1).trans (HG.out.mono (Nat.le_trans HW3.out.size HMF.out.1.size))⟩
        | false =>
          rw [hx, if_neg (by simp)] at HT1
          clear hx
          refine HT1.out.mono ?_; rintro e wa ⟨rfl, ha⟩
          have HMB := Lib.hid (HMQ.out.trans ha)
          clear ha
          go_wp2_with fail
          refine (back_yes _ l.length l.length _ _ HMB.out.cur (Nat.le_refl _)).mono ?_; rintro e wc ⟨rfl, hc⟩
          rw [Nat.sub_self] at hc
          have HMC := Lib.hid (HMB.out.trans hc)
          clear hc
          go_wp2_with fail
          refine (pos_any _ 0 _ _ HMC.out.cur).mono ?_; rintro e w' ⟨rfl, rfl⟩
          go_wp2_with fail
          refine (back_no _ 0 1 _ _ HMC.out.cur (Or.inr (by omega))).mono ?_; rintro e wd ⟨rfl, hd⟩
          have HMD := Lib.hid (HMC.out.trans hd)
          clear hd
          have k3 := conv_string (HSA.out 0 _ HMD.out)
          go_wp2_with fail
          refine (take_any _ 0 _ (ofBys l) _ HMD.out.cur (by rw [HSS.out]; exact hlen)).mono ?_; rintro e we ⟨rfl, he⟩
          clear k3
          rw [HBEG.out, if_pos rfl, Nat.zero_add] at he
          rw [HBEG.out]
          have HME := Lib.hid (HMD.out.trans he)
          clear he
          go_wp2_with fail
          refine (left_any _ _ _ _ HME.out.cur).mono ?_; rintro e wf ⟨rfl, hf⟩
          rw [Nat.sub_self]
          have HMF := Lib.hid (HME.out.trans hf)
          clear hf
          go_wp2_with fail
          refine (awake_any _).mono ?_; rintro e wg ⟨rfl, hg⟩
          have HG := Lib.hid hg
          clear hg
          go_wp2
          go_ret
          exact ⟨rfl, (HW3.out.trans HMF.out.1).trans (HG.out.mono (Nat.le_trans HW3.out.size HMF.out.1.size))⟩

theorem scanReturns_open {H : Type} {enc : TypeId × Value → H} {d0 d1 d2 : DataW H} {p0 p1 p2 : List MemPlace} {q : Prop} (W : World) (base : Nat) (v0 v1 v2 : Value)
    (h0 : DataW.Trod enc Try.prog W 0 (fun _ => true) true 22 v0 d0 p0) (h1 : DataW.Trod enc Try.prog W 0 (fun _ => true) true 3 v1 d1 p1) (h2 : DataW.Trod enc Try.prog W 0 (fun _ => true) true 9 v2 d2 p2)
    (k0 : Value.okWide Try.prog W .any base 22 v0) (k1 : Value.okWide Try.prog W .any base 3 v1) (k2 : Value.okWide Try.prog W .any base 9 v2) (_ : q) :
    Calls Try.prog 8 #[v0, v1, v2] W fun e W' => e = .returned (.bool true) ∧ Below W.heap.size W W' := by
  obtain ⟨l, hs⟩ := sl_of k0 h0
  obtain ⟨x, rfl, rfl, rfl, _⟩ := ChangeShapes.open_int Try.underlying3 k1 h1
  obtain ⟨s, rfl, _, _, ht⟩ := Go.ChangeMaps.open_string Try.underlying9 k2 h2
  exact lawReturns_any v0 l x s W hs ht
end Go.Proofs.Ytnpjbpchnkobnaa
