/- The contracts of the reference's Quote and Plain (gen_rqp.py). -/
import Derived.Test.YtopnckfmdjhbjaaGreatDoorGlM3
import Derived.Test.YtopnckfmdjhbjaaGreatDoorGlQuo
import Derived.Test.YtopnckfmdjhbjaaGreatDoorKMk
namespace Go.Proofs.YtopnckfmdjhbjaaGreatDoor
open Go.RowKit

def inB (c : Int) (l : List Int) : Bool := l.contains c
theorem inB_yes {c : Int} {l : List Int} (j : Nat) (h : j < l.length) (he : l.getD j 0 = c) : inB c l = true := by
  unfold inB
  rw [List.getD, List.getElem?_eq_getElem h] at he
  simp only [Option.getD_some] at he
  simp only [List.contains_iff_mem]
  rw [← he]
  exact List.getElem_mem h
theorem inB_no {c : Int} {l : List Int} (h : ∀ i, i < l.length → ¬ l.getD i 0 = c) : inB c l = false := by
  cases hb : inB c l with
  | false => rfl
  | true =>
    unfold inB at hb
    simp only [List.contains_iff_mem] at hb
    obtain ⟨i, hi, he⟩ := List.getElem_of_mem hb
    exact absurd (by rw [List.getD, List.getElem?_eq_getElem hi]; exact he) (h i hi)
set_option maxHeartbeats 2000000 in
theorem inq_any (c : Int) (t : ByteArray) (w : World) (ht : t.size ≤ 9223372036854775807) :
    Calls Tryz.prog 33 #[.int .u8 c, .string t] w fun e w' => e = .returned (.bool (inB c (bys t))) ∧ w = w' := by
  go_enter Tryz.func33, Tryz.ntmps33
  go_wp2
  go_loop [8] (fun i => ∃ j : Nat, j ≤ t.size ∧ i = .int .i64 j ∧ ∀ i, i < j → ¬ (bys t).getD i 0 = c) (fun i => t.size - (intOf i).toNat)
  case atStart => exact ⟨0, Nat.zero_le _, rfl, fun i hi => absurd hi (by omega)⟩
  case round =>
    obtain ⟨j, hj, rfl, hall⟩ := hrel
    have HA := Lib.hid hall
    clear hall
    by_cases hlt : j < t.size
    · have HG := Lib.hid (bys_getD t j hlt)
      by_cases hc : (t[j].toNat : Int) = c
      · have HY : Hid (true = inB c (bys t)) := (inB_yes j (by rw [bys_length]; exact hlt) (by rw [HG.out]; exact hc)).symm
        have hc' : ((t[j].toNat : Int) == c) = true := by simpa using hc
        clear hc
        go_wp2
        go_ret
        exact ⟨ret_bool HY.out, rfl⟩
      · have hc' : ((t[j].toNat : Int) == c) = false := by simpa using hc
        have HN : Hid (¬ (bys t).getD j 0 = c) := by rw [HG.out]; exact hc
        clear hc
        go_wp2
        go_round
        case rel =>
          refine ⟨j + 1, by omega, by go_num, fun i hi => ?_⟩
          by_cases hij : i = j
          · rw [hij]; exact HN.out
          · exact HA.out i (by omega)
        case measure => simp [intOf]; omega
    · obtain rfl : j = t.size := by omega
      have HY : Hid (false = inB c (bys t)) := (inB_no (fun i hi => HA.out i (by rw [bys_length] at hi; exact hi))).symm
      go_wp2
      go_ret
      exact ⟨ret_bool HY.out, rfl⟩


theorem in_sgn (c : Nat) : inB (c : Int) (bys ⟨#[42, 63, 91, 92]⟩) = sgn (c : Int) := by
  have e : bys ⟨#[42, 63, 91, 92]⟩ = [42, 63, 91, 92] := by decide
  rw [e]
  unfold inB sgn
  simp only [List.contains, List.elem]
  generalize ((c : Int) == 42) = b1
  generalize ((c : Int) == 63) = b2
  generalize ((c : Int) == 91) = b3
  generalize ((c : Int) == 92) = b4
  cases b1 <;> cases b2 <;> cases b3 <;> cases b4 <;> rfl
structure RqI (w W1 : World) (s : ByteArray) (k : Nat) (v : Value) (X : World) : Prop where
  hk : k ≤ s.size
  bel : Below w.heap.size w X
  bel1 : Below W1.heap.size W1 X
  own : X.ownsRow W1.heap.size 5 1 v (quoteL ((bys s).take k)).length ((quoteL ((bys s).take k)).map (Value.int .u8))

set_option maxRecDepth 100000 in
set_option maxHeartbeats 8000000 in
theorem rquote_any (s : ByteArray) (w : World) (hs : s.size ≤ 1048576) :
    Calls Tryz.prog 14 #[.string s] w fun e w' => e = .returned (.string (ofBys (quoteL (bys s)))) ∧ Below w.heap.size w w' := by
  obtain ⟨i0, hi, hz0, hz1, hz2⟩ := info_parts byte_row
  obtain ⟨qc, W1, hcv, hsl, hb1⟩ := conv_sl w s (by omega)
  have HIN : ∀ (c : Nat) X, Hid (Calls Tryz.prog 33 #[.int .u8 (c : Nat), .string ⟨#[42, 63, 91, 92]⟩] X fun e w' => e = .returned (.bool (sgn (c : Int))) ∧ X = w') := fun c X => Lib.hid (by have := inq_any (c : Int) ⟨#[42, 63, 91, 92]⟩ X (by decide); rw [in_sgn] at this; exact this)
  have HSL := Lib.hid hsl
  have HB1 := Lib.hid hb1
  have HI0 : Hid (RqI w W1 s 0 (.slice none 0 0) W1) := Lib.hid ⟨Nat.zero_le _, hb1, Below.refl _ _, World.ownsRow_nil _ _ _ _⟩
  have HINH := Lib.hid HIN
  obtain ⟨n, hn⟩ : ∃ n, n = s.size := ⟨_, rfl⟩
  rw [← hn] at hcv hs
  have HN := Lib.hid hn
  clear hsl hb1 hn HIN
  go_enter Tryz.func14, Tryz.ntmps14
  go_wp2_with fail
  go_loopw [3, 9] (fun v i X => ∃ k : Nat, i = .int .i64 k ∧ Hid (RqI w W1 s k v X)) (fun _ i _ => n - (intOf i).toNat)
  case atStart => exact ⟨0, rfl, HI0⟩
  case round =>
    obtain ⟨k, rfl, HI⟩ := hrel
    have hk := HI.out.hk
    rw [← HN.out] at hk
    have hql := quoteL_len ((bys s).take k)
    rw [List.length_take, bys_length, ← HN.out] at hql
    have hqb : (quoteL ((bys s).take k)).length ≤ 2097152 := by omega
    obtain ⟨a0, cap0, hv0⟩ := own_shapeK HI.out.own
    clear hql
    subst hv0
    by_cases hlt : k < n
    · have hkI : (k : Int) < (n : Int) := by omega
      have hltS : k < s.size := by rw [← HN.out]; exact hlt
      have HTN : Hid (quoteL ((bys s).take (k + 1)) = quoteL ((bys s).take k) ++ q1 (s[k].toNat : Int)) := Lib.hid (by rw [take_next s k hltS, quoteL_snoc])
      have hc256 : s[k].toNat < 256 := s[k].toNat_lt
      have hcell : wr.cell? ⟨w.heap.size, 0 + k, none⟩ = some (.int .u8 (s[k].toNat : Nat)) := by
        rcases HSL.out.2.2 with ⟨h0, _⟩ | ⟨b, o, cp, he, _, _, hr⟩
        · have := congrArg List.length h0; rw [bys_length, List.length_nil] at this; omega
        · simp only [Value.slice.injEq, Option.some.injEq, Addr.mk.injEq] at he
          obtain ⟨⟨rfl, rfl, _⟩, _, rfl⟩ := he
          have h1 := hr k (by rw [bys_length]; exact hltS)
          rw [bys_getD s k hltS] at h1
          exact (HI.out.bel1.cell (p := ⟨w.heap.size, 0 + k, none⟩) (World.block_lt_of_cell? _ _ h1)).trans h1
      rw [Nat.zero_add] at hcell
      obtain ⟨c, hc⟩ : ∃ c, c = s[k].toNat := ⟨_, rfl⟩
      rw [← hc] at HTN hc256 hcell
      clear hc
      have HH := HINH.out c
      cases hsg : sgn (c : Int) with
      | true =>
        have HQ1 : Hid (q1 (c : Int) = [92, (c : Int)]) := Lib.hid (by unfold q1; rw [if_pos hsg])
        rw [hsg] at HH
        clear hsg
        go_wp2_with fail
        refine (HH _).out.mono ?_
        rintro e w2 ⟨rfl, rfl⟩
        have HBa := Lib.hid HI.out.bel
        have HBb := Lib.hid HI.out.bel1
        go_wp2_with (at_builtin; refine wpList_append_own _ rfl _ _ 22 rfl W1.heap.size 5 i0 (.int .u8 0) 1 1 Tryz.underlying22 hi hz0 hz1 hz2 rfl (by decide) _ _ _ rfl (HI.out.own.alloc _) ⟨wr.heap.size, 0, none⟩ 1 1 [.int .u8 92] rfl rfl ?c1 ?c2 ?c3 ?c4 ?c5 ?_)
        try case c1 =>
          intro j u hj
          match j, hj with
          | 0, hj => simp at hj; subst hj; simp [Addr.add]
        try case c2 => intro u hu; simp at hu; subst hu; rfl
        try case c3 => unfold maxLen; simp; omega
        try case c4 => simp; omega
        try case c5 => have := HBb.out.size; simp; omega
        intro v' w3 hown' hgr _
        have HB3 : Hid (Below w.heap.size w w3) := Lib.hid ((HBa.out.alloc HBa.out.size _).grown hgr (by have := HBa.out.size; simp; omega) (fun j hj => Nat.le_trans HB1.out.size (HI.out.own.lt j hj).1))
        have HB3b : Hid (Below W1.heap.size W1 w3) := Lib.hid ((HBb.out.alloc HBb.out.size _).grown hgr (by have := HBb.out.size; simp; omega) (fun j hj => (HI.out.own.lt j hj).1))
        have HO3 : Hid (w3.ownsRow W1.heap.size 5 1 v' ((quoteL ((bys s).take k)).length + 1) ((quoteL ((bys s).take k)).map (Value.int .u8) ++ [.int .u8 92])) := Lib.hid hown'
        obtain ⟨a3, cap3, hv3⟩ := own_shapeK HO3.out
        clear hown' hgr
        subst hv3
        go_wp2_with (at_builtin; refine wpList_append_own _ rfl _ _ 22 rfl W1.heap.size 5 i0 (.int .u8 0) 1 1 Tryz.underlying22 hi hz0 hz1 hz2 rfl (by decide) _ _ _ rfl (HO3.out.alloc _) ⟨w3.heap.size, 0, none⟩ 1 1 [.int .u8 (c : Int)] rfl rfl ?d1 ?d2 ?d3 ?d4 ?d5 ?_)
        try case d1 =>
          intro j u hj
          match j, hj with
          | 0, hj => simp at hj; subst hj; simp [Addr.add]
        try case d2 => intro u hu; simp at hu; subst hu; rfl
        try case d3 => unfold maxLen; simp; omega
        try case d4 => simp; omega
        try case d5 => have := HB3b.out.size; simp; omega
        intro v' w4 hown' hgr _
        have HN4 : Hid (RqI w W1 s (k + 1) v' w4) := Lib.hid ⟨by omega, (HB3.out.alloc HB3.out.size _).grown hgr (by have := HB3.out.size; simp; omega) (fun j hj => Nat.le_trans HB1.out.size (HO3.out.lt j hj).1), (HB3b.out.alloc HB3b.out.size _).grown hgr (by have := HB3b.out.size; simp; omega) (fun j hj => (HO3.out.lt j hj).1), by rw [HTN.out, HQ1.out, List.length_append, List.map_append]; simpa using hown'⟩
        clear hown' hgr
        go_wp2
        exact ⟨⟨k + 1, by go_num, HN4⟩, by simp [intOf]; omega⟩
      | false =>
        have HQ1 : Hid (q1 (c : Int) = [(c : Int)]) := Lib.hid (by unfold q1; rw [if_neg (by rw [hsg]; decide)])
        rw [hsg] at HH
        clear hsg
        go_wp2_with fail
        refine (HH _).out.mono ?_
        rintro e w2 ⟨rfl, rfl⟩
        have HBa := Lib.hid HI.out.bel
        have HBb := Lib.hid HI.out.bel1
        go_wp2_with (at_builtin; refine wpList_append_own _ rfl _ _ 22 rfl W1.heap.size 5 i0 (.int .u8 0) 1 1 Tryz.underlying22 hi hz0 hz1 hz2 rfl (by decide) _ _ _ rfl (HI.out.own.alloc _) ⟨wr.heap.size, 0, none⟩ 1 1 [.int .u8 (c : Int)] rfl rfl ?e1 ?e2 ?e3 ?e4 ?e5 ?_)
        try case e1 =>
          intro j u hj
          match j, hj with
          | 0, hj => simp at hj; subst hj; simp [Addr.add]
        try case e2 => intro u hu; simp at hu; subst hu; rfl
        try case e3 => unfold maxLen; simp; omega
        try case e4 => simp; omega
        try case e5 => have := HBb.out.size; simp; omega
        intro v' w4 hown' hgr _
        have HN4 : Hid (RqI w W1 s (k + 1) v' w4) := Lib.hid ⟨by omega, (HBa.out.alloc HBa.out.size _).grown hgr (by have := HBa.out.size; simp; omega) (fun j hj => Nat.le_trans HB1.out.size (HI.out.own.lt j hj).1), (HBb.out.alloc HBb.out.size _).grown hgr (by have := HBb.out.size; simp; omega) (fun j hj => (HI.out.own.lt j hj).1), by rw [HTN.out, HQ1.out, List.length_append, List.map_append]; exact hown'⟩
        clear hown' hgr
        go_wp2
        exact ⟨⟨k + 1, by go_num, HN4⟩, by simp [intOf]; omega⟩
    · have hke : k = n := by omega
      have HQ : Hid (quoteL ((bys s).take k) = quoteL (bys s)) := Lib.hid (by rw [List.take_of_length_le (by rw [bys_length, hke, HN.out]; exact Nat.le_refl _)])
      have HSLq : Hid (Sl wr (.slice a0 (quoteL ((bys s).take k)).length cap0) (quoteL ((bys s).take k))) := Lib.hid (slOwnedM HI.out.own (by rw [HQ.out]; exact quote_byt (bys_byt s)) (by omega))
      have hcv2 := conv_string HSLq.out
      have hkI : ¬ (k : Int) < (n : Int) := by omega
      clear hke
      go_wp2
      go_ret
      exact ⟨by rw [← HQ.out]; rfl, HI.out.bel⟩

theorem plain1_le (x : Pc) : (plain1 x).length ≤ 1 := by
  have := plainL_len [x]
  simpa [plainL] using this
theorem plain_fail : ∀ (ps : List Pc) (k : Nat) (x : Pc), ps[k]? = some x → plain1 x = [] → (plainL ps).length < ps.length
  | [], k, x, h, _ => by simp at h
  | y :: r, 0, x, h, h0 => by
    simp only [List.getElem?_cons_zero, Option.some.injEq] at h
    subst h
    have := plainL_len r
    show ((plain1 y) ++ plainL r).length < _
    rw [h0]
    simp
    omega
  | y :: r, k + 1, x, h, h0 => by
    have ih := plain_fail r k x (by simpa using h) h0
    have := plain1_le y
    show ((plain1 y) ++ plainL r).length < _
    simp
    omega
/-- The loop's state. -/
structure RlI (w : World) (ps : List Pc) (k : Nat) (v : Value) (X : World) : Prop where
  bel : Below w.heap.size w X
  len : (plainL (ps.take k)).length = k
  own : X.ownsRow w.heap.size 5 1 v k ((plainL (ps.take k)).map (Value.int .u8))
theorem byt_plain1 (x : Pc) : Byt (plain1 x) := by
  have h : plain1 x = if cntS x.set = 1 then byL x.set 256 else [] := rfl
  rw [h]
  split
  · exact byL_byt x.set 256 (Nat.le_refl _)
  · exact fun i => by simp
theorem byt_plainL : ∀ (ps : List Pc), Byt (plainL ps)
  | [] => fun i => by simp [plainL]
  | y :: r => byt_append (byt_plain1 y) (byt_plainL r)

set_option maxRecDepth 100000 in
set_option maxHeartbeats 16000000 in
theorem rplain_any (ps : List Pc) (v : Value) (B : Nat) (w : World) (hrow : w.ownsRow B 55 5 v ps.length (cellsL ps)) (hl : ps.length ≤ 256) :
    Calls Tryz.prog 16 #[v] w fun e w' => e = .returned (.tuple #[.string (if (plainL ps).length < ps.length then ⟨#[]⟩ else ofBys (plainL ps)), .bool (decide (ps.length ≤ (plainL ps).length))]) ∧ Below w.heap.size w w' := by
  obtain ⟨i0, hi, hz0, hz1, hz2⟩ := info_parts byte_row
  have HROW := Lib.hid hrow
  obtain ⟨n, hn⟩ : ∃ n, n = ps.length := ⟨_, rfl⟩
  have HN := Lib.hid hn
  obtain ⟨av, capv, hv⟩ := own_shapeK hrow
  rw [← hn] at hl hv
  subst hv
  have HBYT : Hid (∀ (p : Nat → Bool) X, Calls Tryz.prog 34 #[.agg #[.int .u64 (sw p 0 : Nat), .int .u64 (sw p 1 : Nat), .int .u64 (sw p 2 : Nat), .int .u64 (sw p 3 : Nat)]] X fun e w' => ∃ v, e = .returned v ∧ w'.ownsRow X.heap.size 5 1 v (byL p 256).length ((byL p 256).map (Value.int .u8)) ∧ Below X.heap.size X w') := Lib.hid fun p X => rbytes_any p X
  have HFIN : Hid (∀ k, k = n → (plainL (ps.take k)).length = k → (if (plainL ps).length < ps.length then (⟨#[]⟩ : ByteArray) else ofBys (plainL ps)) = ofBys (plainL (ps.take k)) ∧ decide (ps.length ≤ (plainL ps).length) = true) := Lib.hid fun k hk h => by
    subst hk
    rw [hn, List.take_of_length_le (Nat.le_refl _)] at h ⊢
    rw [if_neg (by omega)]
    exact ⟨rfl, decide_eq_true (by omega)⟩
  have HBAD : Hid (∀ (k : Nat) (x : Pc), ps[k]? = some x → plain1 x = [] → (if (plainL ps).length < ps.length then (⟨#[]⟩ : ByteArray) else ofBys (plainL ps)) = ⟨#[]⟩ ∧ decide (ps.length ≤ (plainL ps).length) = false) := Lib.hid fun k x hx h0 => by
    have := plain_fail ps k x hx h0
    rw [if_pos this]
    exact ⟨rfl, decide_eq_false (by omega)⟩
  generalize (if (plainL ps).length < ps.length then (⟨#[]⟩ : ByteArray) else ofBys (plainL ps)) = RS at *
  generalize decide (ps.length ≤ (plainL ps).length) = RB at *
  clear hrow hn
  have HI0 : Hid (RlI w ps 0 (.slice none 0 0) w) := Lib.hid ⟨Below.refl _ _, by simp [plainL], World.ownsRow_nil _ _ _ _⟩
  go_enter Tryz.func16, Tryz.ntmps16
  go_wp2_with fail
  go_loopw [4, 10] (fun r ix X => ∃ k : Nat, ix = .int .i64 (k : Nat) ∧ k ≤ n ∧ Hid (RlI w ps k r X)) (fun _ ix _ => n - (intOf ix).toNat)
  case atStart => exact ⟨0, rfl, Nat.zero_le _, HI0⟩
  case round =>
    obtain ⟨k, rfl, hk, HI⟩ := hrel
    obtain ⟨a0, cap0, hv0⟩ := own_shapeK HI.out.own
    subst hv0
    by_cases hlt : k < n
    · have hltL : k < ps.length := by rw [← HN.out]; exact hlt
      obtain ⟨x, hx⟩ : ∃ x, ps[k]? = some x := ⟨ps[k], List.getElem?_eq_getElem hltL⟩
      have hro := HROW.out
      rw [← HN.out] at hro
      obtain ⟨g, hg⟩ : ∃ g, av = some ⟨g, 0, none⟩ := by
        rcases hro.2 with ⟨_, h0⟩ | ⟨g, cap', cur, e, _⟩
        · omega
        · simp only [Value.slice.injEq] at e
          exact ⟨g, e.1⟩
      subst hg
      have hro2 := own_drop hro HI.out.bel
      have p0 := row_at hro2 hx 0 (by decide) _ rfl
      have p1 := row_at hro2 hx 1 (by decide) _ rfl
      have p2 := row_at hro2 hx 2 (by decide) _ rfl
      have p3 := row_at hro2 hx 3 (by decide) _ rfl
      have p4 := row_at hro2 hx 4 (by decide) _ rfl
      rw [Nat.add_zero] at p0
      have hkI : (k : Int) < (n : Int) := by omega
      have HBX := Lib.hid (HBAD.out k x hx)
      have HTK : Hid (plainL (ps.take (k + 1)) = plainL (ps.take k) ++ plain1 x) := Lib.hid (by
        have e : ps.take (k + 1) = ps.take k ++ [x] := by
          have hg := (List.getElem?_eq_some_iff.1 hx).2
          rw [← hg]; simp
        rw [e, plainL_snoc])
      have HP1 : Hid (plain1 x = if (byL x.set 256).length = 1 then byL x.set 256 else []) := Lib.hid (by rw [← cntS_len]; rfl)
      have HK1 : Hid (¬ x.kind = 1 → plain1 x = []) := Lib.hid (fun h => by
        cases x with
        | many => kernel_rfl
        | one => kernel_rfl
        | byt p => exact absurd rfl h)
      have HBB := Lib.hid (byL_byt x.set 256 (Nat.le_refl _))
      have hm256 : (byL x.set 256).length ≤ 256 := byL_len x.set 256
      clear hro hro2 hx
      obtain ⟨kd, hkd⟩ : ∃ kd, kd = x.kind := ⟨_, rfl⟩
      obtain ⟨q, hq⟩ : ∃ q, q = x.set := ⟨_, rfl⟩
      rw [← hkd] at p0 HK1
      rw [← hq] at p1 p2 p3 p4 HP1 HBB hm256
      have HBA : Hid (Below w.heap.size w (wr.alloc (.cells #[.int .i64 kd, .int .u64 (sw q 0 : Nat), .int .u64 (sw q 1 : Nat), .int .u64 (sw q 2 : Nat), .int .u64 (sw q 3 : Nat)] 55))) := Lib.hid (HI.out.bel.alloc HI.out.bel.size _)
      have HOA : Hid ((wr.alloc (.cells #[.int .i64 kd, .int .u64 (sw q 0 : Nat), .int .u64 (sw q 1 : Nat), .int .u64 (sw q 2 : Nat), .int .u64 (sw q 3 : Nat)] 55)).ownsRow w.heap.size 5 1 (.slice a0 k cap0) k ((plainL (ps.take k)).map (Value.int .u8))) := Lib.hid (HI.out.own.alloc _)
      have HXA : Hid ((wr.alloc (.cells #[.int .i64 kd, .int .u64 (sw q 0 : Nat), .int .u64 (sw q 1 : Nat), .int .u64 (sw q 2 : Nat), .int .u64 (sw q 3 : Nat)] 55)).heap[wr.heap.size]? = some (.cells #[.int .i64 kd, .int .u64 (sw q 0 : Nat), .int .u64 (sw q 1 : Nat), .int .u64 (sw q 2 : Nat), .int .u64 (sw q 3 : Nat)] 55 (0, 0))) := Lib.hid (alloc_last wr _)
      clear hkd hq
      go_wp2_with fail
      refine (HBYT.out q _).mono ?_
      rintro e w3 ⟨vb, rfl, hob, hb3⟩
      have HB3 := Lib.hid (below_thn HBA.out (Nat.le_refl _) hb3)
      have HO3 := Lib.hid (own_drop HOA.out hb3)
      have HX3 := blk_below HXA.out hb3
      obtain ⟨y0, y1, y2, y3, y4⟩ := cells5 HX3
      have yz := lt_blkB HX3
      obtain ⟨ba, bc, hvb⟩ := own_shapeK hob
      have HSB := Lib.hid (slOwnedM hob HBB.out (by omega))
      clear hob hb3 HX3
      subst hvb
      obtain ⟨m, hm⟩ : ∃ m, m = (byL q 256).length := ⟨_, rfl⟩
      have HM := Lib.hid hm
      rw [← hm] at HSB HP1 hm256 ⊢
      clear hm
      by_cases hk1 : kd = 1
      · have e1 : (kd == 1) = true := by simpa using hk1
        have n1 : (kd != 1) = false := by simp [hk1]
        clear hk1
        by_cases hm1 : m = 1
        · obtain ⟨c, hc⟩ : ∃ c, byL q 256 = [c] := by
            have h := HM.out
            rw [hm1] at h
            exact List.length_eq_one_iff.1 h.symm
          have HP2 : Hid (plain1 x = [c]) := Lib.hid (by rw [HP1.out, if_pos hm1, hc])
          subst hm1
          have hcc : ∃ bb bo, ba = some ⟨bb, bo, none⟩ ∧ w3.cell? ⟨bb, bo, none⟩ = some (.int .u8 c) := by
            rcases HSB.out.2.2 with ⟨h0, _⟩ | ⟨bb, bo, cp, he, _, _, hr⟩
            · rw [hc] at h0; simp at h0
            · simp only [Value.slice.injEq] at he
              have h1 := hr 0 (by rw [hc]; simp)
              rw [hc] at h1
              exact ⟨bb, bo, he.1, by simpa using h1⟩
          obtain ⟨bb, bo, hba, hcc⟩ := hcc
          subst hba
          have hbz := World.block_lt_of_cell? _ _ hcc
          clear hc
          go_wp2_with (at_builtin; refine wpList_append_own _ rfl _ _ 22 rfl w.heap.size 5 i0 (.int .u8 0) 1 1 Tryz.underlying22 hi hz0 hz1 hz2 rfl (by decide) _ _ _ rfl (HO3.out.alloc _) ⟨w3.heap.size, 0, none⟩ 1 1 [.int .u8 c] rfl rfl ?f1 ?f2 ?f3 ?f4 ?f5 ?_)
          try case f1 =>
            intro j u hj
            match j, hj with
            | 0, hj => simp at hj; subst hj; simp [Addr.add]
          try case f2 => intro u hu; simp at hu; subst hu; rfl
          try case f3 => unfold maxLen; simp; omega
          try case f4 => simp; omega
          try case f5 => have := HB3.out.size; simp; omega
          intro v' w4 hown' hgr _
          have HN4 : Hid (RlI w ps (k + 1) v' w4) := Lib.hid ⟨(HB3.out.alloc HB3.out.size _).grown hgr (by have := HB3.out.size; simp; omega) (fun j hj => (HO3.out.lt j hj).1), by rw [HTK.out, HP2.out, List.length_append, HI.out.len]; rfl, by rw [HTK.out, HP2.out, List.map_append]; exact hown'⟩
          clear hown' hgr
          go_wp2_with fail
          go_roundw
          case rel => exact ⟨k + 1, by go_num, by omega, HN4⟩
          case measure => simp [intOf]; omega
        · have m1 : ((m : Int) == 1) = false := by simp; omega
          have m2 : ((m : Int) != 1) = true := by simp; omega
          have m3 : ¬ m = 1 := hm1
          have HRR := Lib.hid (HBX.out (by rw [HP1.out, if_neg hm1]))
          clear hm1
          go_wp2
          go_ret2
          exact ⟨by rw [HRR.out.1, HRR.out.2]; rfl, HB3.out⟩
      · have e1 : (kd == 1) = false := by simpa using hk1
        have n1 : (kd != 1) = true := by simpa using hk1
        have HRR := Lib.hid (HBX.out (HK1.out hk1))
        clear hk1
        go_wp2
        go_ret2
        exact ⟨by rw [HRR.out.1, HRR.out.2]; rfl, HB3.out⟩
    · have hkn : k = n := by omega
      have HR := Lib.hid (HFIN.out k hkn HI.out.len)
      have HSLq : Hid (Sl wr (.slice a0 k cap0) (plainL (ps.take k))) := Lib.hid (by
        have h := HI.out.own
        exact slOwnedM h (byt_plainL _) (by rw [HI.out.len]; omega))
      have hcv2 := conv_string HSLq.out
      have hkI : ¬ (k : Int) < (n : Int) := by omega
      clear hkn
      go_wp2
      go_ret2
      exact ⟨by rw [HR.out.1, HR.out.2]; rfl, HI.out.bel⟩
end Go.Proofs.YtopnckfmdjhbjaaGreatDoor
