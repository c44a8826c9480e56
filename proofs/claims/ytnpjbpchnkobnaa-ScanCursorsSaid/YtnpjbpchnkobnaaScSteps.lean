/- The walk of the statement on a cursor's steps. -/
import Derived.Test.YtnpjbpchnkobnaaScReturns
import Derived.Test.YtnpjbpchnkobnaaRows
import Derived.Deep.RegionWith
namespace Go.Proofs.Ytnpjbpchnkobnaa
open Go.RowKit

/-- A step: what to do, a number, a text. -/
structure StepD where
  dd : Int
  nn : Int
  tt : ByteArray
def StepsAt (w : World) (b off n : Nat) (ws : Nat → StepD) : Prop :=
  ∀ i, i < n → w.cell? ⟨b, off + i * 3, none⟩ = some (.int .i64 (ws i).dd) ∧ w.cell? ⟨b, off + i * 3 + 1, none⟩ = some (.int .i64 (ws i).nn) ∧ w.cell? ⟨b, off + i * 3 + 2, none⟩ = some (.string (ws i).tt) ∧
    (-9223372036854775808 ≤ (ws i).nn ∧ (ws i).nn ≤ 9223372036854775807) ∧ (ws i).tt.size ≤ 9223372036854775807

/-- The block of the round's own copy of its step. -/
def StepBlk (w : World) (S : Nat) (dd nn : Int) (tt : ByteArray) : Prop := w.heap[S]? = some (.cells #[.int .i64 dd, .int .i64 nn, .string tt] 27)
theorem StepBlk.facts {w : World} {S : Nat} {dd nn : Int} {tt : ByteArray} (h : StepBlk w S dd nn tt) : w.cell? ⟨S, 0, none⟩ = some (.int .i64 dd) ∧ w.cell? ⟨S, 1, none⟩ = some (.int .i64 nn) ∧ w.cell? ⟨S, 2, none⟩ = some (.string tt) := by
  unfold StepBlk at h
  exact ⟨by simp [World.cell?, h], by simp [World.cell?, h], by simp [World.cell?, h]⟩
theorem StepBlk.lt {w : World} {S : Nat} {dd nn : Int} {tt : ByteArray} (h : StepBlk w S dd nn tt) : S < w.heap.size := by
  rcases Nat.lt_or_ge S w.heap.size with h' | h'
  · exact h'
  · unfold StepBlk at h; rw [Array.getElem?_eq_none h'] at h; cases h
theorem stepBlk_new (w : World) (dd nn : Int) (tt : ByteArray) : StepBlk (w.alloc (.cells #[.int .i64 dd, .int .i64 nn, .string tt] 27)) w.heap.size dd nn tt := by
  show (w.heap.push _)[w.heap.size]? = _
  simp
theorem StepBlk.mv {w w' : World} {S b k : Nat} {s : ByteArray} {dd nn : Int} {tt : ByteArray} (h : StepBlk w S dd nn tt) (hm : Mv b s k w w') (hb : S ≠ b) (hl : S < w.heap.size) : StepBlk w' S dd nn tt := by
  unfold StepBlk
  rw [hm.2.2 S hl hb]
  exact h
theorem Sl.cells {w : World} {va : Option Addr} {n vc j : Nat} {l : List Int} (h : Sl w (.slice va n vc) l) (hj : j < l.length) : ∃ vb vo, va = some ⟨vb, vo, none⟩ ∧ ∀ i, i < l.length → w.cell? ⟨vb, vo + i, none⟩ = some (.int .u8 (l.getD i 0)) := by
  obtain ⟨_, _, ⟨rfl, _⟩ | ⟨b, o, cap, he, _, _, hr⟩⟩ := h
  · simp at hj
  · simp only [Value.slice.injEq] at he
    exact ⟨b, o, he.1, hr⟩

theorem cur_heap {w w' : World} {b k : Nat} {s : ByteArray} (h : Cur w b s k) (e : w'.heap = w.heap) : Cur w' b s k := ⟨by rw [e]; exact h.1, h.2⟩
theorem Mv.same {w w' w'' : World} {b k : Nat} {s : ByteArray} (h : Mv b s k w w') (e : w''.heap = w'.heap) (e1 : w''.os = w'.os) (e2 : w''.tape = w'.tape) (e3 : w''.output = w'.output) : Mv b s k w w'' :=
  ⟨⟨e1.trans h.1.os, e2.trans h.1.tape, e3.trans h.1.output, by rw [e]; exact h.1.size, fun i hi => by rw [e]; exact h.1.block i hi⟩, cur_heap h.2.1 e, fun i hi hn => by rw [e]; exact h.2.2 i hi hn⟩
theorem StepBlk.heap {w w' : World} {S : Nat} {dd nn : Int} {tt : ByteArray} (h : StepBlk w S dd nn tt) (e : w'.heap = w.heap) : StepBlk w' S dd nn tt := by unfold StepBlk; rw [e]; exact h
theorem bytes_same (v v' : Value) (l : List Int) (w : World) (h : Sl w v l) (h' : Sl w v' l) :
    Calls Try.prog 17 #[v, v'] w fun e w' => e = .returned (.bool true) ∧ w = w' := by
  have := bytes_any v v' l l w h h'
  rwa [decide_eq_true (rfl : l = l)] at this
theorem sl_zero (w : World) (a : Option Addr) (c : Nat) (l : List Int) (j : Nat) : Sl w (.slice a 0 c) ((l.drop j).take 0) := ⟨fun i => by simp, by simp, Or.inl ⟨by simp, a, c, rfl⟩⟩
theorem sl_later {w w1 wz : World} {v : Value} {l : List Int} {s : ByteArray} {k : Nat} (h : Sl w v l) (h2 : w1.heap.size = w.heap.size + 1) (h3 : Below w.heap.size w w1) (hm : Mv w.heap.size s k w1 wz) : Sl wz v l :=
  h.old fun i hi => (hm.2.2 i (by omega) (by omega)).trans (h3.block i hi)
theorem sl_cut {w : World} {vb vo n vc : Nat} {l : List Int} (h : Sl w (.slice (some ⟨vb, vo, none⟩) n vc) l) (j d : Nat) (hd : j + d ≤ l.length) : Sl w (.slice (some ⟨vb, vo + j, none⟩) d (vc - j)) ((l.drop j).take d) := by
  obtain ⟨hy, hl, ⟨rfl, a, c, he⟩ | ⟨b, o, cap, he, hcl, hcm, hr⟩⟩ := h
  · simp only [List.length_nil] at hd
    obtain rfl : j = 0 := by omega
    obtain rfl : d = 0 := by omega
    exact ⟨fun i => by simp, by simp, Or.inl ⟨rfl, _, _, rfl⟩⟩
  · simp only [Value.slice.injEq, Option.some.injEq, Addr.mk.injEq] at he
    obtain ⟨⟨rfl, rfl, _⟩, rfl, rfl⟩ := he
    have h1 := Sl.drop hy hl hcl hcm hr j (by omega)
    have h2 := Sl.take h1 d (by simp; omega)
    exact h2
theorem beg_cut (l : List Int) (hy : Byt l) (j : Nat) (t : ByteArray) (hj : j ≤ l.length) : (j + t.size ≤ l.length → decide (ofBys ((l.drop j).take t.size) = t) = begB ((ofBys l).extract j (ofBys l).size) t) ∧ (¬ j + t.size ≤ l.length → begB ((ofBys l).extract j (ofBys l).size) t = false) := by
  have e0 : ((ofBys l).extract j (ofBys l).size).size = l.length - j := by simp [ofBys_size]
  refine ⟨fun h => ?_, fun h => ?_⟩
  · have e1 : ((ofBys l).extract j (ofBys l).size).extract 0 t.size = ofBys ((l.drop j).take t.size) := by
      apply bys_inj
      rw [bys_extract, bys_extract, bys_ofBys hy, bys_ofBys (byt_take (fun i => by have := hy (j + i); simpa [List.getD, List.getElem?_drop] using this) _), List.drop_zero, ofBys_size, Nat.sub_zero]
      rw [List.take_take]
      congr 1
      omega
    unfold begB
    rw [e1, e0, Bool.eq_iff_iff]
    simp only [decide_eq_true_eq]
    exact ⟨fun a => ⟨by omega, a⟩, fun a => a.2⟩
  · unfold begB
    rw [e0]
    simp only [decide_eq_false_iff_not, not_and]
    intro a
    omega

set_option maxRecDepth 100000 in
set_option maxHeartbeats 128000000 in
theorem lawSteps_any (v : Value) (l : List Int) (sb so sc n : Nat) (ws : Nat → StepD) (w : World) (hs : Sl w v l) (hsteps : StepsAt w sb so n ws) (_hn : n ≤ 9223372036854775807) :
    Calls Try.prog 3 #[v, .slice (some ⟨sb, so, none⟩) n sc] w fun e w' => e = .returned (.bool true) ∧ Below w.heap.size w w' := by
  obtain ⟨va, vc, rfl, hvc⟩ := hs.shape
  have HS := Lib.hid hs
  have hlen := hs.2.1
  have HN := Lib.hid (cnew_any _ l w hs)
  have HC0 := Lib.hid (Cur.new w l hlen)
  have HST := Lib.hid hsteps
  clear hs hsteps
  have hmf : ∀ (fn : Fn) (first cap : Array Value) (w : World), (Instr.makeFunc fn first cap).run Try.prog w = .ok (.func fn first cap) w := fun _ _ _ _ => rfl
  go_enter Try.func3, Try.ntmps3
  go_wp2_with fail
  refine HN.out.mono ?_
  rintro e w1 ⟨rfl, rfl⟩
  go_wp2_with fail
  have hss : (ofBys l).size = l.length := ofBys_size l
  have HSS := Lib.hid hss
  have HBO := Lib.hid (bys_ofBys HS.out.1)
  clear hss
  have HW1 : Hid (w.heap.size < (w.alloc (.cells #[.string (ofBys l), .int .i64 0] 49)).heap.size) := HC0.out.facts.2.2.2.2
  have HW2 : Hid ((w.alloc (.cells #[.string (ofBys l), .int .i64 0] 49)).heap.size = w.heap.size + 1) := by show (w.heap.push _).size = _; simp
  have HW3 : Hid (Below w.heap.size w (w.alloc (.cells #[.string (ofBys l), .int .i64 0] 49))) := (Below.refl _ _).alloc (Nat.le_refl _) _
  generalize w.alloc (.cells #[.string (ofBys l), .int .i64 0] 49) = w1 at *
  go_loopw [6, 7] (fun a i wr => ∃ k j : Nat, k ≤ n ∧ k ≤ 100 ∧ j ≤ l.length ∧ i = .int .i64 k ∧ a = .int .i64 j ∧ Mv w.heap.size (ofBys l) j w1 wr) (fun _ i _ => n - (intOf i).toNat)
  case atStart => exact ⟨0, 0, Nat.zero_le _, Nat.zero_le _, Nat.zero_le _, rfl, rfl, Mv.refl HC0.out⟩
  case round =>
    obtain ⟨k, j, hk, hk100, hjl, rfl, rfl, hmv⟩ := hrel
    have HM := Lib.hid hmv
    clear hmv
    by_cases hgo : k < n ∧ k < 100
    · obtain ⟨hkn, hk1⟩ := hgo
      have hkn' : (k : Int) < n := by omega
      have hk1' : (k : Int) < 100 := by omega
      have hold : ∀ b o, b < w.heap.size → wr.cell? ⟨b, o, none⟩ = w.cell? ⟨b, o, none⟩ := fun b o hb => World.cell?_of_block (w := w) ((HM.out.2.2 b (by have := HW2.out; omega) (by omega)).trans (HW3.out.block b hb))
      obtain ⟨s0, s1, s2, ⟨sn0, sn1⟩, sz⟩ := HST.out k hkn
      have hsb : sb < w.heap.size := by
        rcases Nat.lt_or_ge sb w.heap.size with h' | h'
        · exact h'
        · simp [World.cell?, Array.getElem?_eq_none h'] at s0
      rw [← hold _ _ hsb] at s0 s1 s2
      clear hold
      generalize (ws k).dd = dd at *
      generalize (ws k).nn = nn at *
      generalize (ws k).tt = tt at *
      by_cases hd0 : dd = 0
      · as_aux_lemma =>
        subst hd0
        by_cases hjlt : j < l.length
        · obtain ⟨vb, vo, hva, hrow⟩ := Sl.cells HS.out hjlt
          subst hva
          have HC := Lib.hid (hrow j hjlt)
          clear hrow
          have HCW : Hid (∀ kk wz, Mv w.heap.size (ofBys l) kk w1 wz → wz.cell? ⟨vb, vo + j, none⟩ = some (.int .u8 (l.getD j 0))) := fun kk wz hm => by
            have hlt := World.block_lt_of_cell? _ _ HC.out
            rw [World.cell?_of_block (w := w) ((hm.2.2 vb (by have := HW2.out; simp at hlt; omega) (by simp at hlt; omega)).trans (HW3.out.block vb (by simpa using hlt)))]
            exact HC.out
          have hjI : (j : Int) < l.length := by omega
          have HA : Hid (atB (ofBys l) j = l.getD j 0) := Lib.hid (by unfold atB; rw [HBO.out])
          have hd : j < (ofBys l).size := by rw [HSS.out]; exact hjlt
          have HD := Lib.hid hd
          clear hd
          go_wp2_with fail
          refine (peek_any _ j _ _ (HM.out.alloc _).cur).mono ?_; rintro e wp ⟨rfl, hp⟩
          rw [HA.out, decide_eq_true HD.out]
          have HP := Lib.hid ((HM.out.alloc _).trans hp)
          have HB := Lib.hid (StepBlk.mv (stepBlk_new wr _ _ _) hp (by have := HM.out.cur.facts.2.2.2.2; omega) (by show _ < (wr.heap.push _).size; simp))
          clear hp
          obtain ⟨b0, b1, b2⟩ := HB.out.facts
          go_wp2_with fail
          refine (next_any _ j _ _ HP.out.cur).mono ?_; rintro e wq ⟨rfl, hq⟩
          rw [HA.out, decide_eq_true HD.out]
          rw [if_pos HD.out] at hq
          have HMX := Lib.hid (HP.out.trans hq)
          have HB2 := Lib.hid (StepBlk.mv HB.out hq (by have := HM.out.cur.facts.2.2.2.2; omega) (StepBlk.lt HB.out))
          clear hq b0 b1 b2
          obtain ⟨b0, b1, b2⟩ := HB2.out.facts
          have hcell := HCW.out _ _ HMX.out
          generalize l.getD j 0 = c at *
          have HJL : Hid (j + 1 ≤ l.length) := hjlt
          have hJl : j + 1 ≤ l.length := HJL.out
          have hsub : ((l.length - (j + 1) : Nat) : Int) = (l.length : Int) - ((j : Int) + 1) := by omega
          go_wp2_with fail
          refine (pos_any _ (j + 1) _ _ HMX.out.cur).mono ?_; rintro e w' ⟨rfl, rfl⟩
          go_wp2_with fail
          refine (left_any _ (j + 1) _ _ HMX.out.cur).mono ?_; rintro e wl ⟨rfl, hl⟩
          have HML := Lib.hid (HMX.out.trans hl)
          clear hl
          rw [HSS.out]
          go_wp2_with fail
          go_roundw
          case rel => exact ⟨k + 1, j + 1, by omega, by omega, HJL.out, by go_num, by first | rfl | go_num, HML.out⟩
          case measure => simp [intOf]; omega
        · have hje : j = l.length := by omega
          subst hje
          have HD : Hid (¬ l.length < (ofBys l).size) := by rw [HSS.out]; exact Nat.lt_irrefl _
          have HA : Hid (atB (ofBys l) l.length = 0) := Lib.hid (by unfold atB; rw [HBO.out, List.getD, List.getElem?_eq_none (Nat.le_refl _)]; rfl)
          go_wp2_with fail
          refine (peek_any _ l.length _ _ (HM.out.alloc _).cur).mono ?_; rintro e wp ⟨rfl, hp⟩
          rw [HA.out, decide_eq_false HD.out]
          have HP := Lib.hid ((HM.out.alloc _).trans hp)
          have HB := Lib.hid (StepBlk.mv (stepBlk_new wr _ _ _) hp (by have := HM.out.cur.facts.2.2.2.2; omega) (by show _ < (wr.heap.push _).size; simp))
          clear hp
          obtain ⟨b0, b1, b2⟩ := HB.out.facts
          go_wp2_with fail
          refine (next_any _ l.length _ _ HP.out.cur).mono ?_; rintro e wq ⟨rfl, hq⟩
          rw [HA.out, decide_eq_false HD.out]
          rw [if_neg HD.out] at hq
          have HMX := Lib.hid (HP.out.trans hq)
          have HB2 := Lib.hid (StepBlk.mv HB.out hq (by have := HM.out.cur.facts.2.2.2.2; omega) (StepBlk.lt HB.out))
          clear hq b0 b1 b2
          obtain ⟨b0, b1, b2⟩ := HB2.out.facts
          have HJL : Hid (l.length ≤ l.length) := Nat.le_refl _
          have hJl : l.length ≤ l.length := HJL.out
          have hsub : ((l.length - (l.length) : Nat) : Int) = (l.length : Int) - ((l.length : Int)) := by omega
          go_wp2_with fail
          refine (pos_any _ (l.length) _ _ HMX.out.cur).mono ?_; rintro e w' ⟨rfl, rfl⟩
          go_wp2_with fail
          refine (left_any _ (l.length) _ _ HMX.out.cur).mono ?_; rintro e wl ⟨rfl, hl⟩
          have HML := Lib.hid (HMX.out.trans hl)
          clear hl
          rw [HSS.out]
          go_wp2_with fail
          go_roundw
          case rel => exact ⟨k + 1, l.length, by omega, by omega, HJL.out, by go_num, by first | rfl | go_num, HML.out⟩
          case measure => simp [intOf]; omega
      by_cases hd1 : dd = 1
      · as_aux_lemma =>
        subst hd1
        clear hd0
        by_cases hjlt : j < l.length
        · obtain ⟨vb, vo, hva, hrow⟩ := Sl.cells HS.out hjlt
          subst hva
          have HC := Lib.hid (hrow j hjlt)
          clear hrow
          have HCW : Hid (∀ kk wz, Mv w.heap.size (ofBys l) kk w1 wz → wz.cell? ⟨vb, vo + j, none⟩ = some (.int .u8 (l.getD j 0))) := fun kk wz hm => by
            have hlt := World.block_lt_of_cell? _ _ HC.out
            rw [World.cell?_of_block (w := w) ((hm.2.2 vb (by have := HW2.out; simp at hlt; omega) (by simp at hlt; omega)).trans (HW3.out.block vb (by simpa using hlt)))]
            exact HC.out
          have hjI : (j : Int) < l.length := by omega
          have HA : Hid (atB (ofBys l) j = l.getD j 0) := Lib.hid (by unfold atB; rw [HBO.out])
          have hd : j < (ofBys l).size := by rw [HSS.out]; exact hjlt
          have HD := Lib.hid hd
          clear hd
          go_wp2_with fail
          refine (peek_any _ j _ _ (HM.out.alloc _).cur).mono ?_; rintro e wp ⟨rfl, hp⟩
          rw [HA.out, decide_eq_true HD.out]
          have HP := Lib.hid ((HM.out.alloc _).trans hp)
          have HB := Lib.hid (StepBlk.mv (stepBlk_new wr _ _ _) hp (by have := HM.out.cur.facts.2.2.2.2; omega) (by show _ < (wr.heap.push _).size; simp))
          clear hp
          obtain ⟨b0, b1, b2⟩ := HB.out.facts
          have HMX := HP
          have hcell := HCW.out _ _ HMX.out
          generalize l.getD j 0 = c at *
          have HJL : Hid (j ≤ l.length) := hjl
          have hJl : j ≤ l.length := HJL.out
          have hsub : ((l.length - (j) : Nat) : Int) = (l.length : Int) - ((j : Int)) := by omega
          go_wp2_with fail
          refine (pos_any _ (j) _ _ HMX.out.cur).mono ?_; rintro e w' ⟨rfl, rfl⟩
          go_wp2_with fail
          refine (left_any _ (j) _ _ HMX.out.cur).mono ?_; rintro e wl ⟨rfl, hl⟩
          have HML := Lib.hid (HMX.out.trans hl)
          clear hl
          rw [HSS.out]
          go_wp2_with fail
          go_roundw
          case rel => exact ⟨k + 1, j, by omega, by omega, HJL.out, by go_num, by first | rfl | go_num, HML.out⟩
          case measure => simp [intOf]; omega
        · have hje : j = l.length := by omega
          subst hje
          have HD : Hid (¬ l.length < (ofBys l).size) := by rw [HSS.out]; exact Nat.lt_irrefl _
          have HA : Hid (atB (ofBys l) l.length = 0) := Lib.hid (by unfold atB; rw [HBO.out, List.getD, List.getElem?_eq_none (Nat.le_refl _)]; rfl)
          go_wp2_with fail
          refine (peek_any _ l.length _ _ (HM.out.alloc _).cur).mono ?_; rintro e wp ⟨rfl, hp⟩
          rw [HA.out, decide_eq_false HD.out]
          have HP := Lib.hid ((HM.out.alloc _).trans hp)
          have HB := Lib.hid (StepBlk.mv (stepBlk_new wr _ _ _) hp (by have := HM.out.cur.facts.2.2.2.2; omega) (by show _ < (wr.heap.push _).size; simp))
          clear hp
          obtain ⟨b0, b1, b2⟩ := HB.out.facts
          have HMX := HP
          have HJL : Hid (l.length ≤ l.length) := Nat.le_refl _
          have hJl : l.length ≤ l.length := HJL.out
          have hsub : ((l.length - (l.length) : Nat) : Int) = (l.length : Int) - ((l.length : Int)) := by omega
          go_wp2_with fail
          refine (pos_any _ (l.length) _ _ HMX.out.cur).mono ?_; rintro e w' ⟨rfl, rfl⟩
          go_wp2_with fail
          refine (left_any _ (l.length) _ _ HMX.out.cur).mono ?_; rintro e wl ⟨rfl, hl⟩
          have HML := Lib.hid (HMX.out.trans hl)
          clear hl
          rw [HSS.out]
          go_wp2_with fail
          go_roundw
          case rel => exact ⟨k + 1, l.length, by omega, by omega, HJL.out, by go_num, by first | rfl | go_num, HML.out⟩
          case measure => simp [intOf]; omega
      by_cases hd2 : dd = 2
      · as_aux_lemma =>
        subst hd2
        clear hd0 hd1
        by_cases hy : 0 ≤ nn ∧ nn ≤ j
        · obtain ⟨hy0, hy1⟩ := hy
          obtain ⟨m, rfl⟩ : ∃ m : Nat, nn = m := ⟨nn.toNat, by omega⟩
          have hmj : m ≤ j := by omega
          go_wp2_with fail
          refine (back_yes _ j m _ _ (HM.out.alloc _).cur hmj).mono ?_; rintro e wp ⟨rfl, hp⟩
          have HMX := Lib.hid ((HM.out.alloc _).trans hp)
          have HB := Lib.hid (StepBlk.mv (stepBlk_new wr _ _ _) hp (by have := HM.out.cur.facts.2.2.2.2; omega) (by show _ < (wr.heap.push _).size; simp))
          clear hp
          obtain ⟨b0, b1, b2⟩ := HB.out.facts
          have HJL : Hid (j - m ≤ l.length) := by show _ ≤ _; omega
          have hjm : ((j - m : Nat) : Int) = (j : Int) - m := by omega
          have hJl : j - m ≤ l.length := HJL.out
          have hsub : ((l.length - (j - m) : Nat) : Int) = (l.length : Int) - ((j : Int) - m) := by omega
          go_wp2_with fail
          refine (pos_any _ (j - m) _ _ HMX.out.cur).mono ?_; rintro e w' ⟨rfl, rfl⟩
          go_wp2_with fail
          refine (left_any _ (j - m) _ _ HMX.out.cur).mono ?_; rintro e wl ⟨rfl, hl⟩
          have HML := Lib.hid (HMX.out.trans hl)
          clear hl
          rw [HSS.out]
          go_wp2_with fail
          go_roundw
          case rel => exact ⟨k + 1, j - m, by omega, by omega, HJL.out, by go_num, by first | rfl | go_num, HML.out⟩
          case measure => simp [intOf]; omega
        · have hy' : nn < 0 ∨ (0 ≤ nn ∧ (j : Int) < nn) := by omega
          rcases hy' with hy' | ⟨hy0, hy'⟩
          all_goals
            go_wp2_with fail
            refine (back_no _ j nn _ _ (HM.out.alloc _).cur (by omega)).mono ?_; rintro e wp ⟨rfl, hp⟩
            have HMX := Lib.hid ((HM.out.alloc _).trans hp)
            have HB := Lib.hid (StepBlk.mv (stepBlk_new wr _ _ _) hp (by have := HM.out.cur.facts.2.2.2.2; omega) (by show _ < (wr.heap.push _).size; simp))
            clear hp
            obtain ⟨b0, b1, b2⟩ := HB.out.facts
            have HJL : Hid (j ≤ l.length) := hjl
            have hJl : j ≤ l.length := HJL.out
            have hsub : ((l.length - (j) : Nat) : Int) = (l.length : Int) - ((j : Int)) := by omega
            go_wp2_with fail
            refine (pos_any _ (j) _ _ HMX.out.cur).mono ?_; rintro e w' ⟨rfl, rfl⟩
            go_wp2_with fail
            refine (left_any _ (j) _ _ HMX.out.cur).mono ?_; rintro e wl ⟨rfl, hl⟩
            have HML := Lib.hid (HMX.out.trans hl)
            clear hl
            rw [HSS.out]
            go_wp2_with fail
            go_roundw
            case rel => exact ⟨k + 1, j, by omega, by omega, HJL.out, by go_num, by first | rfl | go_num, HML.out⟩
            case measure => simp [intOf]; omega
      by_cases hd3 : dd = 3
      · as_aux_lemma =>
        subst hd3
        clear hd0 hd1 hd2
        have HBS := Lib.hid (stepBlk_new wr 3 nn tt)
        have HMZ := Lib.hid (HM.out.alloc (.cells #[.int .i64 3, .int .i64 nn, .string tt] 27))
        have HSL := Lib.hid (sl_later HS.out HW2.out HW3.out HMZ.out)
        have htt : tt.size ≤ 9223372036854775807 := by omega
        have HTK : Hid (∀ wz, Cur wz w.heap.size (ofBys l) j → Calls Try.prog 13 #[.pointer (some ⟨w.heap.size, 0, none⟩), .string tt] wz fun e w' => e = .returned (.bool (begB ((ofBys l).extract j (ofBys l).size) tt)) ∧ Mv w.heap.size (ofBys l) (if begB ((ofBys l).extract j (ofBys l).size) tt = true then j + tt.size else j) wz w') := fun wz h => take_any _ j _ tt wz h htt
        have HBG := Lib.hid (beg_cut l HS.out.1 j tt hjl)
        have HNE : Hid (w.heap.size ≠ wr.heap.size) := by have := HM.out.cur.facts.2.2.2.2; show _ ≠ _; omega
        generalize hx : begB ((ofBys l).extract j (ofBys l).size) tt = x at HTK HBG
        clear hx
        by_cases hfit : (tt.size : Int) ≤ (l.length : Int) - j
        · have HBG2 := HBG.out.1 (by omega)
          have heq := toList_beq (ofBys ((l.drop j).take tt.size)) tt
          rw [HBG2] at heq
          clear HBG2
          by_cases ht0 : tt.size = 0
          · have kz : ∀ a c q, (convert 22 9 (.slice a 0 c)).run Try.prog ((wr.alloc (.cells #[.int .i64 3, .int .i64 nn, .string tt] 27)).drewN q) = .ok (.string (ofBys [])) ((wr.alloc (.cells #[.int .i64 3, .int .i64 nn, .string tt] 27)).drewN q) := fun a c q => conv_string ⟨fun i => by simp, by simp, Or.inl ⟨rfl, a, c, rfl⟩⟩
            rw [ht0, List.take_zero] at heq
            rcases (by omega : j = vc ∨ j < vc) with hjc | hjc
            · subst hjc
              cases x with
              | true =>
                as_aux_lemma =>
                  go_wp2_with fail
                  go_quiet (fail)
                  have HT0 := Lib.hid ht0
                  clear ht0
                  go_wp2_with fail
                  have HMZQ := Lib.hid (HMZ.out.drewAt nq)
                  have HBQ : Hid (StepBlk ((wr.alloc (.cells #[.int .i64 3, .int .i64 nn, .string tt] 27)).drewN nq) wr.heap.size 3 nn tt) := HBS.out
                  refine (HTK.out _ HMZQ.out.cur).mono ?_; rintro e wp ⟨rfl, hp⟩
                  rw [if_pos trivial] at hp
                  have HMX := Lib.hid (HMZQ.out.trans hp)
                  have HB := Lib.hid (StepBlk.mv HBQ.out hp HNE.out.symm (StepBlk.lt HBQ.out))
                  clear hp
                  obtain ⟨b0, b1, b2⟩ := HB.out.facts
                  have HJL : Hid (j + tt.size ≤ l.length) := by show _ ≤ _; omega
                  have hJl : j + tt.size ≤ l.length := HJL.out
                  have hsub : ((l.length - (j + tt.size) : Nat) : Int) = (l.length : Int) - ((j : Int) + tt.size) := by omega
                  go_wp2_with fail
                  refine (pos_any _ (j + tt.size) _ _ HMX.out.cur).mono ?_; rintro e w' ⟨rfl, rfl⟩
                  go_wp2_with fail
                  refine (left_any _ (j + tt.size) _ _ HMX.out.cur).mono ?_; rintro e wl ⟨rfl, hl⟩
                  have HML := Lib.hid (HMX.out.trans hl)
                  clear hl
                  rw [HSS.out]
                  go_wp2_with fail
                  go_roundw
                  case rel => exact ⟨k + 1, j + tt.size, by omega, by omega, HJL.out, by go_num, by first | rfl | go_num, HML.out⟩
                  case measure => simp [intOf]; omega
              | false =>
                as_aux_lemma =>
                  go_wp2_with fail
                  go_quiet (fail)
                  have HT0 := Lib.hid ht0
                  clear ht0
                  go_wp2_with fail
                  have HMZQ := Lib.hid (HMZ.out.drewAt nq)
                  have HBQ : Hid (StepBlk ((wr.alloc (.cells #[.int .i64 3, .int .i64 nn, .string tt] 27)).drewN nq) wr.heap.size 3 nn tt) := HBS.out
                  refine (HTK.out _ HMZQ.out.cur).mono ?_; rintro e wp ⟨rfl, hp⟩
                  simp only [Bool.false_eq_true, if_false] at hp
                  have HMX := Lib.hid (HMZQ.out.trans hp)
                  have HB := Lib.hid (StepBlk.mv HBQ.out hp HNE.out.symm (StepBlk.lt HBQ.out))
                  clear hp
                  obtain ⟨b0, b1, b2⟩ := HB.out.facts
                  have HJL : Hid (j ≤ l.length) := hjl
                  have hJl : j ≤ l.length := HJL.out
                  have hsub : ((l.length - (j) : Nat) : Int) = (l.length : Int) - ((j : Int)) := by omega
                  go_wp2_with fail
                  refine (pos_any _ (j) _ _ HMX.out.cur).mono ?_; rintro e w' ⟨rfl, rfl⟩
                  go_wp2_with fail
                  refine (left_any _ (j) _ _ HMX.out.cur).mono ?_; rintro e wl ⟨rfl, hl⟩
                  have HML := Lib.hid (HMX.out.trans hl)
                  clear hl
                  rw [HSS.out]
                  go_wp2_with fail
                  go_roundw
                  case rel => exact ⟨k + 1, j, by omega, by omega, HJL.out, by go_num, by first | rfl | go_num, HML.out⟩
                  case measure => simp [intOf]; omega
            · skip
              cases x with
              | true =>
                as_aux_lemma =>
                  go_wp2_with fail
                  go_quiet (fail)
                  have HT0 := Lib.hid ht0
                  clear ht0
                  go_wp2_with fail
                  have HMZQ := Lib.hid (HMZ.out.drewAt nq)
                  have HBQ : Hid (StepBlk ((wr.alloc (.cells #[.int .i64 3, .int .i64 nn, .string tt] 27)).drewN nq) wr.heap.size 3 nn tt) := HBS.out
                  refine (HTK.out _ HMZQ.out.cur).mono ?_; rintro e wp ⟨rfl, hp⟩
                  rw [if_pos trivial] at hp
                  have HMX := Lib.hid (HMZQ.out.trans hp)
                  have HB := Lib.hid (StepBlk.mv HBQ.out hp HNE.out.symm (StepBlk.lt HBQ.out))
                  clear hp
                  obtain ⟨b0, b1, b2⟩ := HB.out.facts
                  have HJL : Hid (j + tt.size ≤ l.length) := by show _ ≤ _; omega
                  have hJl : j + tt.size ≤ l.length := HJL.out
                  have hsub : ((l.length - (j + tt.size) : Nat) : Int) = (l.length : Int) - ((j : Int) + tt.size) := by omega
                  go_wp2_with fail
                  refine (pos_any _ (j + tt.size) _ _ HMX.out.cur).mono ?_; rintro e w' ⟨rfl, rfl⟩
                  go_wp2_with fail
                  refine (left_any _ (j + tt.size) _ _ HMX.out.cur).mono ?_; rintro e wl ⟨rfl, hl⟩
                  have HML := Lib.hid (HMX.out.trans hl)
                  clear hl
                  rw [HSS.out]
                  go_wp2_with fail
                  go_roundw
                  case rel => exact ⟨k + 1, j + tt.size, by omega, by omega, HJL.out, by go_num, by first | rfl | go_num, HML.out⟩
                  case measure => simp [intOf]; omega
              | false =>
                as_aux_lemma =>
                  go_wp2_with fail
                  go_quiet (fail)
                  have HT0 := Lib.hid ht0
                  clear ht0
                  go_wp2_with fail
                  have HMZQ := Lib.hid (HMZ.out.drewAt nq)
                  have HBQ : Hid (StepBlk ((wr.alloc (.cells #[.int .i64 3, .int .i64 nn, .string tt] 27)).drewN nq) wr.heap.size 3 nn tt) := HBS.out
                  refine (HTK.out _ HMZQ.out.cur).mono ?_; rintro e wp ⟨rfl, hp⟩
                  simp only [Bool.false_eq_true, if_false] at hp
                  have HMX := Lib.hid (HMZQ.out.trans hp)
                  have HB := Lib.hid (StepBlk.mv HBQ.out hp HNE.out.symm (StepBlk.lt HBQ.out))
                  clear hp
                  obtain ⟨b0, b1, b2⟩ := HB.out.facts
                  have HJL : Hid (j ≤ l.length) := hjl
                  have hJl : j ≤ l.length := HJL.out
                  have hsub : ((l.length - (j) : Nat) : Int) = (l.length : Int) - ((j : Int)) := by omega
                  go_wp2_with fail
                  refine (pos_any _ (j) _ _ HMX.out.cur).mono ?_; rintro e w' ⟨rfl, rfl⟩
                  go_wp2_with fail
                  refine (left_any _ (j) _ _ HMX.out.cur).mono ?_; rintro e wl ⟨rfl, hl⟩
                  have HML := Lib.hid (HMX.out.trans hl)
                  clear hl
                  rw [HSS.out]
                  go_wp2_with fail
                  go_roundw
                  case rel => exact ⟨k + 1, j, by omega, by omega, HJL.out, by go_num, by first | rfl | go_num, HML.out⟩
                  case measure => simp [intOf]; omega
          · have hl0 : 0 < l.length := by omega
            have hjc' : j < vc := by omega
            obtain ⟨vb, vo, hva, hrow⟩ := Sl.cells HS.out hl0
            subst hva
            clear hrow ht0
            have k1 : ∀ q, (convert 22 9 (.slice (some ⟨vb, vo + j, none⟩) tt.size (vc - j))).run Try.prog ((wr.alloc (.cells #[.int .i64 3, .int .i64 nn, .string tt] 27)).drewN q) = .ok (.string (ofBys ((l.drop j).take tt.size))) ((wr.alloc (.cells #[.int .i64 3, .int .i64 nn, .string tt] 27)).drewN q) := fun q => conv_string ((sl_cut HSL.out j tt.size (by omega)).heap rfl)
            cases x with
            | true =>
              as_aux_lemma =>
                go_wp2_with fail
                go_quiet (fail)
                go_wp2_with fail
                have HMZQ := Lib.hid (HMZ.out.drewAt nq)
                have HBQ : Hid (StepBlk ((wr.alloc (.cells #[.int .i64 3, .int .i64 nn, .string tt] 27)).drewN nq) wr.heap.size 3 nn tt) := HBS.out
                refine (HTK.out _ HMZQ.out.cur).mono ?_; rintro e wp ⟨rfl, hp⟩
                rw [if_pos trivial] at hp
                have HMX := Lib.hid (HMZQ.out.trans hp)
                have HB := Lib.hid (StepBlk.mv HBQ.out hp HNE.out.symm (StepBlk.lt HBQ.out))
                clear hp
                obtain ⟨b0, b1, b2⟩ := HB.out.facts
                have HJL : Hid (j + tt.size ≤ l.length) := by show _ ≤ _; omega
                have hJl : j + tt.size ≤ l.length := HJL.out
                have hsub : ((l.length - (j + tt.size) : Nat) : Int) = (l.length : Int) - ((j : Int) + tt.size) := by omega
                go_wp2_with fail
                refine (pos_any _ (j + tt.size) _ _ HMX.out.cur).mono ?_; rintro e w' ⟨rfl, rfl⟩
                go_wp2_with fail
                refine (left_any _ (j + tt.size) _ _ HMX.out.cur).mono ?_; rintro e wl ⟨rfl, hl⟩
                have HML := Lib.hid (HMX.out.trans hl)
                clear hl
                rw [HSS.out]
                go_wp2_with fail
                go_roundw
                case rel => exact ⟨k + 1, j + tt.size, by omega, by omega, HJL.out, by go_num, by first | rfl | go_num, HML.out⟩
                case measure => simp [intOf]; omega
            | false =>
              as_aux_lemma =>
                go_wp2_with fail
                go_quiet (fail)
                go_wp2_with fail
                have HMZQ := Lib.hid (HMZ.out.drewAt nq)
                have HBQ : Hid (StepBlk ((wr.alloc (.cells #[.int .i64 3, .int .i64 nn, .string tt] 27)).drewN nq) wr.heap.size 3 nn tt) := HBS.out
                refine (HTK.out _ HMZQ.out.cur).mono ?_; rintro e wp ⟨rfl, hp⟩
                simp only [Bool.false_eq_true, if_false] at hp
                have HMX := Lib.hid (HMZQ.out.trans hp)
                have HB := Lib.hid (StepBlk.mv HBQ.out hp HNE.out.symm (StepBlk.lt HBQ.out))
                clear hp
                obtain ⟨b0, b1, b2⟩ := HB.out.facts
                have HJL : Hid (j ≤ l.length) := hjl
                have hJl : j ≤ l.length := HJL.out
                have hsub : ((l.length - (j) : Nat) : Int) = (l.length : Int) - ((j : Int)) := by omega
                go_wp2_with fail
                refine (pos_any _ (j) _ _ HMX.out.cur).mono ?_; rintro e w' ⟨rfl, rfl⟩
                go_wp2_with fail
                refine (left_any _ (j) _ _ HMX.out.cur).mono ?_; rintro e wl ⟨rfl, hl⟩
                have HML := Lib.hid (HMX.out.trans hl)
                clear hl
                rw [HSS.out]
                go_wp2_with fail
                go_roundw
                case rel => exact ⟨k + 1, j, by omega, by omega, HJL.out, by go_num, by first | rfl | go_num, HML.out⟩
                case measure => simp [intOf]; omega
        · have HBF := HBG.out.2 (by omega)
          subst HBF
          have hdf : decide ((tt.size : Int) ≤ (l.length : Int) - j) = false := decide_eq_false hfit
          go_wp2_with fail
          go_quiet (fail)
          go_wp2_with fail
          have HMZQ := Lib.hid (HMZ.out.drewAt nq)
          have HBQ : Hid (StepBlk ((wr.alloc (.cells #[.int .i64 3, .int .i64 nn, .string tt] 27)).drewN nq) wr.heap.size 3 nn tt) := HBS.out
          refine (HTK.out _ HMZQ.out.cur).mono ?_; rintro e wp ⟨rfl, hp⟩
          simp only [Bool.false_eq_true, if_false] at hp
          have HMX := Lib.hid (HMZQ.out.trans hp)
          have HB := Lib.hid (StepBlk.mv HBQ.out hp HNE.out.symm (StepBlk.lt HBQ.out))
          clear hp
          obtain ⟨b0, b1, b2⟩ := HB.out.facts
          have HJL : Hid (j ≤ l.length) := hjl
          have hJl : j ≤ l.length := HJL.out
          have hsub : ((l.length - (j) : Nat) : Int) = (l.length : Int) - ((j : Int)) := by omega
          go_wp2_with fail
          refine (pos_any _ (j) _ _ HMX.out.cur).mono ?_; rintro e w' ⟨rfl, rfl⟩
          go_wp2_with fail
          refine (left_any _ (j) _ _ HMX.out.cur).mono ?_; rintro e wl ⟨rfl, hl⟩
          have HML := Lib.hid (HMX.out.trans hl)
          clear hl
          rw [HSS.out]
          go_wp2_with fail
          go_roundw
          case rel => exact ⟨k + 1, j, by omega, by omega, HJL.out, by go_num, by first | rfl | go_num, HML.out⟩
          case measure => simp [intOf]; omega
      by_cases hd4 : dd = 4
      · as_aux_lemma =>
        subst hd4
        clear hd0 hd1 hd2 hd3
        obtain ⟨wo, hwo⟩ : ∃ wo : World, wo = wr := ⟨_, rfl⟩
        subst hwo
        have HBS := Lib.hid (stepBlk_new wo 4 nn tt)
        have HMZ := Lib.hid (HM.out.alloc (.cells #[.int .i64 4, .int .i64 nn, .string tt] 27))
        have htt : tt.size ≤ 9223372036854775807 := by omega
        have HIN : Hid (∀ c wz, Calls Try.prog 14 #[.int .u8 c, .string tt] wz fun e w' => e = .returned (.bool (inB c (bys tt))) ∧ w' = wz) := fun c wz => (in_any c tt wz htt).mono fun _ _ h => ⟨h.1, h.2.symm⟩
        have HGT : Hid (∀ wz, Cur wz w.heap.size (ofBys l) j → Calls Try.prog 16 #[.pointer (some ⟨w.heap.size, 0, none⟩), .string tt] wz (PassOut wz w.heap.size (ofBys l) j (passN (ofBys l) tt true j))) := fun wz hz => while_any _ j _ tt wz hz htt
        have HNE : Hid (w.heap.size ≠ wo.heap.size) := by have := HM.out.cur.facts.2.2.2.2; show _ ≠ _; omega
        go_wp2_with fail
        go_loopw [6] (fun a wx => ∃ p : Nat, j ≤ p ∧ p ≤ l.length ∧ a = .int .i64 p ∧ (∀ i, j ≤ i → i < p → inB (atB (ofBys l) i) (bys tt) = true) ∧ wx.heap = (wo.alloc (.cells #[.int .i64 4, .int .i64 nn, .string tt] 27)).heap ∧ Mv w.heap.size (ofBys l) j w1 wx) (fun a _ => (l.length - (intOf a).toNat))
        case atStart => exact ⟨j, Nat.le_refl _, hjl, rfl, fun i h1 h2 => absurd h2 (by omega), rfl, HMZ.out⟩
        case round =>
          obtain ⟨p, hjp, hpl, rfl, hall, hheap, hmx⟩ := hrel
          have HALL := Lib.hid hall
          have HMX0 := Lib.hid hmx
          have HB : Hid (StepBlk wr wo.heap.size 4 nn tt) := Lib.hid (by unfold StepBlk; rw [hheap]; exact HBS.out)
          have HHP := Lib.hid hheap
          have HSL := Lib.hid (sl_later HS.out HW2.out HW3.out hmx)
          clear hall hheap hmx
          obtain ⟨b0, b1, b2⟩ := HB.out.facts
          have HA : Hid (atB (ofBys l) p = l.getD p 0) := Lib.hid (by unfold atB; rw [HBO.out])
          by_cases hgo : p < l.length ∧ inB (atB (ofBys l) p) (bys tt) = true
          · obtain ⟨hplt, hin⟩ := hgo
            have hpI : (p : Int) < l.length := by omega
            have HALL2 : Hid (∀ i, j ≤ i → i < p + 1 → inB (atB (ofBys l) i) (bys tt) = true) := by
              intro i h1 h2
              by_cases hip : i = p
              · rw [hip]; exact hin
              · exact HALL.out i h1 (by omega)
            obtain ⟨vb, vo, hva, hrow⟩ := Sl.cells HSL.out hplt
            subst hva
            have hcell := hrow p hplt
            have HIC := Lib.hid (HIN.out (l.getD p 0))
            rw [← HA.out, hin] at HIC
            rw [HA.out] at HIC
            clear hrow hin
            generalize l.getD p 0 = c at hcell HIC
            go_wp2_with fail
            go_quiet ((go_at_call 14; exact Calls.quiet_of_same (HIC.out _)))
            go_wp2_with fail
            go_roundw
            case rel => exact ⟨p + 1, by omega, by omega, by go_num, HALL2.out, HHP.out, HMX0.out.drewAt nq⟩
            case measure => simp [intOf]; omega
          · have HPN : Hid (passN (ofBys l) tt true j = p - j) := passN_of hjp (by rw [HSS.out]; exact hpl) HALL.out (fun h => fun e => hgo ⟨by rw [HSS.out] at h; exact h, e⟩)
            have HG2 := HGT
            rw [HPN.out] at HG2
            clear HGT
            rcases (by omega : p = l.length ∨ p < l.length) with hpe | hplt
            · skip
              have HG3 := HG2
              clear HG2
              subst hpe
              clear hgo
              rcases (by omega : j = vc ∨ (j < vc ∧ l.length = 0) ∨ (j < vc ∧ 0 < l.length)) with hjc | ⟨hjc, hl0⟩ | ⟨hjc, hl0⟩
              · obtain rfl : j = l.length := by omega
                subst hjc
                as_aux_lemma =>
                  have HG2 := HG3
                  rw [Nat.sub_self] at HG2
                  clear HG3
                  go_wp2_with fail
                  go_quiet (fail)
                  go_wp2_with fail
                  go_region_with (first
                    | (go_at_call 16; refine (HG2.out _ (HMX0.out.drewAt _).cur).mono ?_; rintro e w2 ⟨nb, cap, rfl, hsl, hnb, hnb2, hmv⟩; rw [HBO.out] at hsl; have HS2 := Lib.hid hsl; have HM2 := Lib.hid ((HMX0.out.drewAt _).trans hmv); clear hsl hnb hnb2 hmv)
                    | (go_at_call 17; refine (bytes_same _ _ _ _ HS2.out (sl_zero _ _ _ l _)).mono ?_; rintro e w3 ⟨rfl, rfl⟩))
                  all_goals
                    go_wp2_with fail
                    have HMX : Hid (Mv w.heap.size (ofBys l) (l.length) w1 w2) := by have h := HM2.out; rwa [Nat.add_zero] at h
                    have HJL : Hid (l.length ≤ l.length) := Nat.le_refl _
                    have hJl : l.length ≤ l.length := HJL.out
                    have hsub : ((l.length - (l.length) : Nat) : Int) = (l.length : Int) - ((l.length : Int)) := by omega
                    go_wp2_with fail
                    refine (pos_any _ (l.length) _ _ HMX.out.cur).mono ?_; rintro e w' ⟨rfl, rfl⟩
                    go_wp2_with fail
                    refine (left_any _ (l.length) _ _ HMX.out.cur).mono ?_; rintro e wl ⟨rfl, hl⟩
                    have HML := Lib.hid (HMX.out.trans hl)
                    clear hl
                    rw [HSS.out]
                    go_wp2_with fail
                    go_roundw
                    case rel => exact ⟨k + 1, l.length, by omega, by omega, HJL.out, by go_num, by first | rfl | go_num, HML.out⟩
                    case measure => simp [intOf]; omega
              · obtain rfl : j = l.length := by omega
                clear hl0
                as_aux_lemma =>
                  have HG2 := HG3
                  rw [Nat.sub_self] at HG2
                  clear HG3
                  go_wp2_with fail
                  go_quiet (fail)
                  go_wp2_with fail
                  go_region_with (first
                    | (go_at_call 16; refine (HG2.out _ (HMX0.out.drewAt _).cur).mono ?_; rintro e w2 ⟨nb, cap, rfl, hsl, hnb, hnb2, hmv⟩; rw [HBO.out] at hsl; have HS2 := Lib.hid hsl; have HM2 := Lib.hid ((HMX0.out.drewAt _).trans hmv); clear hsl hnb hnb2 hmv)
                    | (go_at_call 17; refine (bytes_same _ _ _ _ HS2.out (sl_zero _ _ _ l _)).mono ?_; rintro e w3 ⟨rfl, rfl⟩))
                  all_goals
                    go_wp2_with fail
                    have HMX : Hid (Mv w.heap.size (ofBys l) (l.length) w1 w2) := by have h := HM2.out; rwa [Nat.add_zero] at h
                    have HJL : Hid (l.length ≤ l.length) := Nat.le_refl _
                    have hJl : l.length ≤ l.length := HJL.out
                    have hsub : ((l.length - (l.length) : Nat) : Int) = (l.length : Int) - ((l.length : Int)) := by omega
                    go_wp2_with fail
                    refine (pos_any _ (l.length) _ _ HMX.out.cur).mono ?_; rintro e w' ⟨rfl, rfl⟩
                    go_wp2_with fail
                    refine (left_any _ (l.length) _ _ HMX.out.cur).mono ?_; rintro e wl ⟨rfl, hl⟩
                    have HML := Lib.hid (HMX.out.trans hl)
                    clear hl
                    rw [HSS.out]
                    go_wp2_with fail
                    go_roundw
                    case rel => exact ⟨k + 1, l.length, by omega, by omega, HJL.out, by go_num, by first | rfl | go_num, HML.out⟩
                    case measure => simp [intOf]; omega
              · skip
                as_aux_lemma =>
                  have HG2 := HG3
                  clear HG3
                  obtain ⟨vb, vo, hva, hrow⟩ := Sl.cells HS.out hl0
                  subst hva
                  clear hrow
                  go_wp2_with fail
                  go_quiet (fail)
                  go_wp2_with fail
                  go_region_with (first
                    | (go_at_call 16; refine (HG2.out _ (HMX0.out.drewAt _).cur).mono ?_; rintro e w2 ⟨nb, cap, rfl, hsl, hnb, hnb2, hmv⟩; rw [HBO.out] at hsl; have HS2 := Lib.hid hsl; have HM2 := Lib.hid ((HMX0.out.drewAt _).trans hmv); clear hsl hnb hnb2 hmv)
                    | (go_at_call 17; refine (bytes_same _ _ _ _ HS2.out (sl_cut (sl_later HS.out HW2.out HW3.out HM2.out) j (l.length - j) (by omega))).mono ?_; rintro e w3 ⟨rfl, rfl⟩))
                  all_goals
                    go_wp2_with fail
                    have HMX : Hid (Mv w.heap.size (ofBys l) (l.length) w1 w2) := by have h := HM2.out; rwa [Nat.add_sub_cancel' hjp] at h
                    have HJL : Hid (l.length ≤ l.length) := Nat.le_refl _
                    have hJl : l.length ≤ l.length := HJL.out
                    have hsub : ((l.length - (l.length) : Nat) : Int) = (l.length : Int) - ((l.length : Int)) := by omega
                    go_wp2_with fail
                    refine (pos_any _ (l.length) _ _ HMX.out.cur).mono ?_; rintro e w' ⟨rfl, rfl⟩
                    go_wp2_with fail
                    refine (left_any _ (l.length) _ _ HMX.out.cur).mono ?_; rintro e wl ⟨rfl, hl⟩
                    have HML := Lib.hid (HMX.out.trans hl)
                    clear hl
                    rw [HSS.out]
                    go_wp2_with fail
                    go_roundw
                    case rel => exact ⟨k + 1, l.length, by omega, by omega, HJL.out, by go_num, by first | rfl | go_num, HML.out⟩
                    case measure => simp [intOf]; omega
            · skip
              have HG3 := HG2
              clear HG2
              have hin : inB (atB (ofBys l) p) (bys tt) = false := by
                cases hv : inB (atB (ofBys l) p) (bys tt) with
                | true => exact absurd ⟨hplt, hv⟩ hgo
                | false => rfl
              have hpI : (p : Int) < l.length := by omega
              have hjc : j < vc := by omega
              have hl0 : 0 < l.length := by omega
              have HIC := Lib.hid (HIN.out (l.getD p 0))
              rw [← HA.out, hin] at HIC
              rw [HA.out] at HIC
              obtain ⟨vb, vo, hva, hrow⟩ := Sl.cells HSL.out hplt
              subst hva
              have hcell := hrow p hplt
              clear hrow hin hgo
              generalize l.getD p 0 = c at hcell HIC
              as_aux_lemma =>
                have HG2 := HG3
                clear HG3
                go_wp2_with fail
                go_quiet ((go_at_call 14; exact Calls.quiet_of_same (HIC.out _)))
                go_wp2_with fail
                go_region_with (first
                  | (go_at_call 16; refine (HG2.out _ (HMX0.out.drewAt _).cur).mono ?_; rintro e w2 ⟨nb, cap, rfl, hsl, hnb, hnb2, hmv⟩; rw [HBO.out] at hsl; have HS2 := Lib.hid hsl; have HM2 := Lib.hid ((HMX0.out.drewAt _).trans hmv); clear hsl hnb hnb2 hmv)
                  | (go_at_call 17; refine (bytes_same _ _ _ _ HS2.out (sl_cut (sl_later HS.out HW2.out HW3.out HM2.out) j (p - j) (by omega))).mono ?_; rintro e w3 ⟨rfl, rfl⟩))
                all_goals
                  go_wp2_with fail
                  have HMX : Hid (Mv w.heap.size (ofBys l) (p) w1 w2) := by have h := HM2.out; rwa [Nat.add_sub_cancel' hjp] at h
                  have HJL : Hid (p ≤ l.length) := hpl
                  have hJl : p ≤ l.length := HJL.out
                  have hsub : ((l.length - (p) : Nat) : Int) = (l.length : Int) - ((p : Int)) := by omega
                  go_wp2_with fail
                  refine (pos_any _ (p) _ _ HMX.out.cur).mono ?_; rintro e w' ⟨rfl, rfl⟩
                  go_wp2_with fail
                  refine (left_any _ (p) _ _ HMX.out.cur).mono ?_; rintro e wl ⟨rfl, hl⟩
                  have HML := Lib.hid (HMX.out.trans hl)
                  clear hl
                  rw [HSS.out]
                  go_wp2_with fail
                  go_roundw
                  case rel => exact ⟨k + 1, p, by omega, by omega, HJL.out, by go_num, by first | rfl | go_num, HML.out⟩
                  case measure => simp [intOf]; omega
      · as_aux_lemma =>
        skip
        have e0 : ((dd : Int) == 0) = false := by simpa using hd0
        have e1 : ((dd : Int) == 1) = false := by simpa using hd1
        have e2 : ((dd : Int) == 2) = false := by simpa using hd2
        have e3 : ((dd : Int) == 3) = false := by simpa using hd3
        have e4 : ((dd : Int) == 4) = false := by simpa using hd4
        obtain ⟨wo, hwo⟩ : ∃ wo : World, wo = wr := ⟨_, rfl⟩
        subst hwo
        have HBS := Lib.hid (stepBlk_new wo dd nn tt)
        have HMZ := Lib.hid (HM.out.alloc (.cells #[.int .i64 dd, .int .i64 nn, .string tt] 27))
        have htt : tt.size ≤ 9223372036854775807 := by omega
        have HIN : Hid (∀ c wz, Calls Try.prog 14 #[.int .u8 c, .string tt] wz fun e w' => e = .returned (.bool (inB c (bys tt))) ∧ w' = wz) := fun c wz => (in_any c tt wz htt).mono fun _ _ h => ⟨h.1, h.2.symm⟩
        have HGT : Hid (∀ wz, Cur wz w.heap.size (ofBys l) j → Calls Try.prog 15 #[.pointer (some ⟨w.heap.size, 0, none⟩), .string tt] wz (PassOut wz w.heap.size (ofBys l) j (passN (ofBys l) tt false j))) := fun wz hz => until_any _ j _ tt wz hz htt
        have HNE : Hid (w.heap.size ≠ wo.heap.size) := by have := HM.out.cur.facts.2.2.2.2; show _ ≠ _; omega
        go_wp2_with fail
        go_loopw [6] (fun a wx => ∃ p : Nat, j ≤ p ∧ p ≤ l.length ∧ a = .int .i64 p ∧ (∀ i, j ≤ i → i < p → inB (atB (ofBys l) i) (bys tt) = false) ∧ wx.heap = (wo.alloc (.cells #[.int .i64 dd, .int .i64 nn, .string tt] 27)).heap ∧ Mv w.heap.size (ofBys l) j w1 wx) (fun a _ => (l.length - (intOf a).toNat))
        case atStart => exact ⟨j, Nat.le_refl _, hjl, rfl, fun i h1 h2 => absurd h2 (by omega), rfl, HMZ.out⟩
        case round =>
          obtain ⟨p, hjp, hpl, rfl, hall, hheap, hmx⟩ := hrel
          have HALL := Lib.hid hall
          have HMX0 := Lib.hid hmx
          have HB : Hid (StepBlk wr wo.heap.size dd nn tt) := Lib.hid (by unfold StepBlk; rw [hheap]; exact HBS.out)
          have HHP := Lib.hid hheap
          have HSL := Lib.hid (sl_later HS.out HW2.out HW3.out hmx)
          clear hall hheap hmx
          obtain ⟨b0, b1, b2⟩ := HB.out.facts
          have HA : Hid (atB (ofBys l) p = l.getD p 0) := Lib.hid (by unfold atB; rw [HBO.out])
          by_cases hgo : p < l.length ∧ inB (atB (ofBys l) p) (bys tt) = false
          · obtain ⟨hplt, hin⟩ := hgo
            have hpI : (p : Int) < l.length := by omega
            have HALL2 : Hid (∀ i, j ≤ i → i < p + 1 → inB (atB (ofBys l) i) (bys tt) = false) := by
              intro i h1 h2
              by_cases hip : i = p
              · rw [hip]; exact hin
              · exact HALL.out i h1 (by omega)
            obtain ⟨vb, vo, hva, hrow⟩ := Sl.cells HSL.out hplt
            subst hva
            have hcell := hrow p hplt
            have HIC := Lib.hid (HIN.out (l.getD p 0))
            rw [← HA.out, hin] at HIC
            rw [HA.out] at HIC
            clear hrow hin
            generalize l.getD p 0 = c at hcell HIC
            go_wp2_with fail
            go_quiet ((go_at_call 14; exact Calls.quiet_of_same (HIC.out _)))
            go_wp2_with fail
            go_roundw
            case rel => exact ⟨p + 1, by omega, by omega, by go_num, HALL2.out, HHP.out, HMX0.out.drewAt nq⟩
            case measure => simp [intOf]; omega
          · have HPN : Hid (passN (ofBys l) tt false j = p - j) := passN_of hjp (by rw [HSS.out]; exact hpl) HALL.out (fun h => fun e => hgo ⟨by rw [HSS.out] at h; exact h, e⟩)
            have HG2 := HGT
            rw [HPN.out] at HG2
            clear HGT
            rcases (by omega : p = l.length ∨ p < l.length) with hpe | hplt
            · skip
              have HG3 := HG2
              clear HG2
              subst hpe
              clear hgo
              rcases (by omega : j = vc ∨ (j < vc ∧ l.length = 0) ∨ (j < vc ∧ 0 < l.length)) with hjc | ⟨hjc, hl0⟩ | ⟨hjc, hl0⟩
              · obtain rfl : j = l.length := by omega
                subst hjc
                as_aux_lemma =>
                  have HG2 := HG3
                  rw [Nat.sub_self] at HG2
                  clear HG3
                  go_wp2_with fail
                  go_quiet (fail)
                  go_wp2_with fail
                  go_region_with (first
                    | (go_at_call 15; refine (HG2.out _ (HMX0.out.drewAt _).cur).mono ?_; rintro e w2 ⟨nb, cap, rfl, hsl, hnb, hnb2, hmv⟩; rw [HBO.out] at hsl; have HS2 := Lib.hid hsl; have HM2 := Lib.hid ((HMX0.out.drewAt _).trans hmv); clear hsl hnb hnb2 hmv)
                    | (go_at_call 17; refine (bytes_same _ _ _ _ HS2.out (sl_zero _ _ _ l _)).mono ?_; rintro e w3 ⟨rfl, rfl⟩))
                  all_goals
                    go_wp2_with fail
                    have HMX : Hid (Mv w.heap.size (ofBys l) (l.length) w1 w2) := by have h := HM2.out; rwa [Nat.add_zero] at h
                    have HJL : Hid (l.length ≤ l.length) := Nat.le_refl _
                    have hJl : l.length ≤ l.length := HJL.out
                    have hsub : ((l.length - (l.length) : Nat) : Int) = (l.length : Int) - ((l.length : Int)) := by omega
                    go_wp2_with fail
                    refine (pos_any _ (l.length) _ _ HMX.out.cur).mono ?_; rintro e w' ⟨rfl, rfl⟩
                    go_wp2_with fail
                    refine (left_any _ (l.length) _ _ HMX.out.cur).mono ?_; rintro e wl ⟨rfl, hl⟩
                    have HML := Lib.hid (HMX.out.trans hl)
                    clear hl
                    rw [HSS.out]
                    go_wp2_with fail
                    go_roundw
                    case rel => exact ⟨k + 1, l.length, by omega, by omega, HJL.out, by go_num, by first | rfl | go_num, HML.out⟩
                    case measure => simp [intOf]; omega
              · obtain rfl : j = l.length := by omega
                clear hl0
                as_aux_lemma =>
                  have HG2 := HG3
                  rw [Nat.sub_self] at HG2
                  clear HG3
                  go_wp2_with fail
                  go_quiet (fail)
                  go_wp2_with fail
                  go_region_with (first
                    | (go_at_call 15; refine (HG2.out _ (HMX0.out.drewAt _).cur).mono ?_; rintro e w2 ⟨nb, cap, rfl, hsl, hnb, hnb2, hmv⟩; rw [HBO.out] at hsl; have HS2 := Lib.hid hsl; have HM2 := Lib.hid ((HMX0.out.drewAt _).trans hmv); clear hsl hnb hnb2 hmv)
                    | (go_at_call 17; refine (bytes_same _ _ _ _ HS2.out (sl_zero _ _ _ l _)).mono ?_; rintro e w3 ⟨rfl, rfl⟩))
                  all_goals
                    go_wp2_with fail
                    have HMX : Hid (Mv w.heap.size (ofBys l) (l.length) w1 w2) := by have h := HM2.out; rwa [Nat.add_zero] at h
                    have HJL : Hid (l.length ≤ l.length) := Nat.le_refl _
                    have hJl : l.length ≤ l.length := HJL.out
                    have hsub : ((l.length - (l.length) : Nat) : Int) = (l.length : Int) - ((l.length : Int)) := by omega
                    go_wp2_with fail
                    refine (pos_any _ (l.length) _ _ HMX.out.cur).mono ?_; rintro e w' ⟨rfl, rfl⟩
                    go_wp2_with fail
                    refine (left_any _ (l.length) _ _ HMX.out.cur).mono ?_; rintro e wl ⟨rfl, hl⟩
                    have HML := Lib.hid (HMX.out.trans hl)
                    clear hl
                    rw [HSS.out]
                    go_wp2_with fail
                    go_roundw
                    case rel => exact ⟨k + 1, l.length, by omega, by omega, HJL.out, by go_num, by first | rfl | go_num, HML.out⟩
                    case measure => simp [intOf]; omega
              · skip
                as_aux_lemma =>
                  have HG2 := HG3
                  clear HG3
                  obtain ⟨vb, vo, hva, hrow⟩ := Sl.cells HS.out hl0
                  subst hva
                  clear hrow
                  go_wp2_with fail
                  go_quiet (fail)
                  go_wp2_with fail
                  go_region_with (first
                    | (go_at_call 15; refine (HG2.out _ (HMX0.out.drewAt _).cur).mono ?_; rintro e w2 ⟨nb, cap, rfl, hsl, hnb, hnb2, hmv⟩; rw [HBO.out] at hsl; have HS2 := Lib.hid hsl; have HM2 := Lib.hid ((HMX0.out.drewAt _).trans hmv); clear hsl hnb hnb2 hmv)
                    | (go_at_call 17; refine (bytes_same _ _ _ _ HS2.out (sl_cut (sl_later HS.out HW2.out HW3.out HM2.out) j (l.length - j) (by omega))).mono ?_; rintro e w3 ⟨rfl, rfl⟩))
                  all_goals
                    go_wp2_with fail
                    have HMX : Hid (Mv w.heap.size (ofBys l) (l.length) w1 w2) := by have h := HM2.out; rwa [Nat.add_sub_cancel' hjp] at h
                    have HJL : Hid (l.length ≤ l.length) := Nat.le_refl _
                    have hJl : l.length ≤ l.length := HJL.out
                    have hsub : ((l.length - (l.length) : Nat) : Int) = (l.length : Int) - ((l.length : Int)) := by omega
                    go_wp2_with fail
                    refine (pos_any _ (l.length) _ _ HMX.out.cur).mono ?_; rintro e w' ⟨rfl, rfl⟩
                    go_wp2_with fail
                    refine (left_any _ (l.length) _ _ HMX.out.cur).mono ?_; rintro e wl ⟨rfl, hl⟩
                    have HML := Lib.hid (HMX.out.trans hl)
                    clear hl
                    rw [HSS.out]
                    go_wp2_with fail
                    go_roundw
                    case rel => exact ⟨k + 1, l.length, by omega, by omega, HJL.out, by go_num, by first | rfl | go_num, HML.out⟩
                    case measure => simp [intOf]; omega
            · skip
              have HG3 := HG2
              clear HG2
              have hin : inB (atB (ofBys l) p) (bys tt) = true := by
                cases hv : inB (atB (ofBys l) p) (bys tt) with
                | false => exact absurd ⟨hplt, hv⟩ hgo
                | true => rfl
              have hpI : (p : Int) < l.length := by omega
              have hjc : j < vc := by omega
              have hl0 : 0 < l.length := by omega
              have HIC := Lib.hid (HIN.out (l.getD p 0))
              rw [← HA.out, hin] at HIC
              rw [HA.out] at HIC
              obtain ⟨vb, vo, hva, hrow⟩ := Sl.cells HSL.out hplt
              subst hva
              have hcell := hrow p hplt
              clear hrow hin hgo
              generalize l.getD p 0 = c at hcell HIC
              as_aux_lemma =>
                have HG2 := HG3
                clear HG3
                go_wp2_with fail
                go_quiet ((go_at_call 14; exact Calls.quiet_of_same (HIC.out _)))
                go_wp2_with fail
                go_region_with (first
                  | (go_at_call 15; refine (HG2.out _ (HMX0.out.drewAt _).cur).mono ?_; rintro e w2 ⟨nb, cap, rfl, hsl, hnb, hnb2, hmv⟩; rw [HBO.out] at hsl; have HS2 := Lib.hid hsl; have HM2 := Lib.hid ((HMX0.out.drewAt _).trans hmv); clear hsl hnb hnb2 hmv)
                  | (go_at_call 17; refine (bytes_same _ _ _ _ HS2.out (sl_cut (sl_later HS.out HW2.out HW3.out HM2.out) j (p - j) (by omega))).mono ?_; rintro e w3 ⟨rfl, rfl⟩))
                all_goals
                  go_wp2_with fail
                  have HMX : Hid (Mv w.heap.size (ofBys l) (p) w1 w2) := by have h := HM2.out; rwa [Nat.add_sub_cancel' hjp] at h
                  have HJL : Hid (p ≤ l.length) := hpl
                  have hJl : p ≤ l.length := HJL.out
                  have hsub : ((l.length - (p) : Nat) : Int) = (l.length : Int) - ((p : Int)) := by omega
                  go_wp2_with fail
                  refine (pos_any _ (p) _ _ HMX.out.cur).mono ?_; rintro e w' ⟨rfl, rfl⟩
                  go_wp2_with fail
                  refine (left_any _ (p) _ _ HMX.out.cur).mono ?_; rintro e wl ⟨rfl, hl⟩
                  have HML := Lib.hid (HMX.out.trans hl)
                  clear hl
                  rw [HSS.out]
                  go_wp2_with fail
                  go_roundw
                  case rel => exact ⟨k + 1, p, by omega, by omega, HJL.out, by go_num, by first | rfl | go_num, HML.out⟩
                  case measure => simp [intOf]; omega
    · have hend : ¬ (k : Int) < n ∨ ((k : Int) < n ∧ ¬ (k : Int) < 100) := by omega
      rcases hend with he | ⟨he, he2⟩
      all_goals
        go_wp2_with fail
        refine (awake_any _).mono ?_; rintro e wg ⟨rfl, hg⟩
        have HG := Lib.hid hg
        clear hg
        go_wp2
        go_ret
        exact ⟨rfl, (HW3.out.trans HM.out.1).trans (HG.out.mono (Nat.le_trans HW3.out.size HM.out.1.size))⟩
end Go.Proofs.Ytnpjbpchnkobnaa
