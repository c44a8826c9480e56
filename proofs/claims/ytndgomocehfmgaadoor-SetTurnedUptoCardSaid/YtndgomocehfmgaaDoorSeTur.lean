/- SetTurned's walk (gen_turned.py). -/
import Derived.Test.YtndgomocehfmgaaDoorSeBky
import Derived.Test.YtndgomocehfmgaaDoorSeShf
import Derived.Test.YtndgomocehfmgaaDoorSeAwk
import Derived.Test.YtndgomocehfmgaaDoorFaTell
import Derived.Test.YtndgomocehfmgaaDoorSeCxB
import Derived.Laws.AppendOwnNone
import Derived.Lib.SlBytesConst
import Derived.ArgAppend
namespace Go.Proofs.YtndgomocehfmgaaDoor
open Go.RowKit

theorem partR_code {cf : ByteArray → (Nat → Bool) × Bool} {s : ByteArray} {g : Bool} {k c pos : Nat} (h : partR cf s g k = .bad c pos) : c = 7 ∨ c = 8 := by
  unfold partR at h
  cases h1 : itemR cf s g k with
  | bad p => rw [h1] at h; injection h with h h'; exact Or.inr h.symm
  | cls p n => rw [h1] at h; cases h
  | byt d n =>
    rw [h1] at h
    simp only at h
    split at h
    · cases h2 : itemR cf s g (n + 1) with
      | bad p => rw [h2] at h; injection h with h h'; exact Or.inr h.symm
      | cls p n2 => rw [h2] at h; injection h with h h'; exact Or.inr h.symm
      | byt d2 n2 =>
        rw [h2] at h
        simp only at h
        split at h
        · injection h with h h'; exact Or.inl h.symm
        · cases h
    · cases h
theorem itemR_pos {cf : ByteArray → (Nat → Bool) × Bool} {s : ByteArray} {g : Bool} {k pos : Nat} (hk : k ≤ s.size) (h : itemR cf s g k = .bad pos) : pos ≤ s.size := by
  unfold itemR at h
  split at h
  · split at h
    · injection h with h; omega
    · split at h
      · cases h
      · injection h with h; omega
  · split at h
    · injection h with h; omega
    · split at h
      · rename_i hc
        have := atB_in (s := s) (k := k) (by rw [hc.2]; decide)
        split at h
        · cases h
        · injection h with h; omega
      · split at h
        · cases h
        · injection h with h; omega
theorem partR_pos {cf : ByteArray → (Nat → Bool) × Bool} {s : ByteArray} {g : Bool} {k c pos : Nat} (hk : k ≤ s.size) (h : partR cf s g k = .bad c pos) : pos ≤ s.size := by
  unfold partR at h
  cases h1 : itemR cf s g k with
  | bad p => rw [h1] at h; injection h with h h'; have := itemR_pos hk h1; omega
  | cls p n => rw [h1] at h; cases h
  | byt d n =>
    rw [h1] at h
    simp only at h
    have b1 := (itemR_byte h1).2
    split at h
    · rename_i hc
      have hn := atB_in (s := s) (k := n) (by rw [hc.1]; decide)
      cases h2 : itemR cf s g (n + 1) with
      | bad p => rw [h2] at h; injection h with h h'; have := itemR_pos (by omega) h2; omega
      | cls p n2 => rw [h2] at h; injection h with h h'; omega
      | byt d2 n2 =>
        rw [h2] at h
        simp only at h
        split at h
        · injection h with h h'; omega
        · cases h
    · cases h
theorem brkL_code {cf : ByteArray → (Nat → Bool) × Bool} {s : ByteArray} {g : Bool} : ∀ (n k : Nat) (f : Bool) (p : Nat → Bool) (c pos : Nat), k ≤ s.size → s.size + 1 - k ≤ n → brkL cf s g n k f p = .bad c pos → (c = 7 ∨ c = 8) ∧ pos ≤ s.size := by
  intro n
  induction n with
  | zero => intro k f p c pos h1 h2; omega
  | succ n ih =>
    intro k f p c pos h1 h2 h
    unfold brkL at h
    split at h
    · cases h
    · cases hp : partR cf s g k with
      | bad c' pos' =>
        rw [hp] at h
        injection h with h h'
        subst h
        subst h'
        exact ⟨partR_code hp, partR_pos h1 hp⟩
      | ok q nx =>
        rw [hp] at h
        have := partR_next hp
        exact ih nx false _ c pos (by omega) (by omega) h
theorem Snt.es {w : World} {e : Nat → Addr} (h : Snt w e) : Es w w.heap.size e := ⟨h.var, by have := h.low; omega, Nat.le_refl _⟩
theorem tellS {w : World} {B : Nat} {e : Nat → Addr} {lg : Int} {c : Nat} {p : Int} {v : Value} (hs : Snt w e) (h : ErrS w B e lg c p v) (h1 : 1 ≤ c) (h2 : c ≤ 21) :
    Calls Tryd.prog 16 #[v] w fun x w' => x = .returned (.agg #[.int .i64 c, .int .i64 p, .int .i64 lg]) ∧ Below w.heap.size w w' := by
  have := tell_any [(true, lg), (false, p)] v (e c) e c w hs (hs.rt c h1 h2) h.chn
  simpa [firstOf] using this
theorem byt_takeT {l : List Int} (h : Byt l) (j : Nat) : Byt (l.take j) := fun i => by
  by_cases hi : i < j
  · have := h i
    rwa [show (l.take j).getD i 0 = l.getD i 0 by simp [List.getD, hi]]
  · rw [List.getD, List.getElem?_eq_none (by simp; omega)]; simp
theorem SlTake {w : World} {b o cap : Nat} {l : List Int} (hs : Sl w (.slice (some ⟨b, o, none⟩) l.length cap) l) (j : Nat) (hj : j ≤ l.length) : Sl w (.slice (some ⟨b, o, none⟩) j cap) (l.take j) := by
  obtain ⟨hy, hl, ⟨rfl, a', cap', he⟩ | ⟨b', o', cap', he, hcl, hcm, hr⟩⟩ := hs
  · have : j = 0 := by simpa using hj
    subst this
    exact ⟨byt_takeT hy 0, by simp, Or.inl ⟨rfl, _, _, rfl⟩⟩
  · simp only [Value.slice.injEq, Option.some.injEq, Addr.mk.injEq] at he
    obtain ⟨⟨rfl, rfl, _⟩, _, rfl⟩ := he
    refine ⟨byt_takeT hy j, by simp; omega, Or.inr ⟨b, o, cap, by simp; omega, by simp; omega, hcm, fun i hi => ?_⟩⟩
    simp at hi
    have hij : i < j := by omega
    rw [hr i (by omega), show (l.take j).getD i 0 = l.getD i 0 by simp [List.getD, hij]]
/-- Bracket from the first place. -/
theorem bkt0 (cf : ByteArray → (Nat → Bool) × Bool) (hcf : ClassOk cf) (e : Nat → Addr) (v : Value) (l : List Int) (lg : Int) (hb47 : l.length ≤ 140737488351232) (w : World) (he : Snt w e) (hs : Sl w v l) (hlg : lg = 2 ∨ lg = 3 ∨ lg = 4) {R : BR} (hR : brkR cf (ofBys l) (decide (lg = 2)) 0 = R) :
    Calls Tryd.prog 14 #[v, .int .i64 0, .int .i64 lg] w (BkPost R e 0 lg w) := by
  have := bkt_any cf hcf e v l 0 lg hb47 w he.es hs (Nat.zero_le _) hlg
  rw [List.drop_zero, hR] at this
  exact this

set_option maxRecDepth 100000 in
set_option maxHeartbeats 16000000 in
theorem turned_ere (cf : ByteArray → (Nat → Bool) × Bool) (hcf : ClassOk cf) (e : Nat → Addr) (x o cap : Nat) (a1 : Option Addr) (cap1 : Nat) (l r : List Int) (hlen : l.length + r.length ≤ 4194304) (w : World) (hsn : Snt w e)
    (hs : Sl w (.slice (some ⟨x, o, none⟩) l.length cap) l) (hr : Sl w (.slice a1 r.length cap1) r) (hnil : a1 = none → r.length = 0 ∧ cap1 = 0) (hl0 : 0 < l.length) (hcl : l.length ≤ cap) (hc0 : w.cell? ⟨x, o, none⟩ = some (.int .u8 (l.getD 0 0))) (h94 : ¬ l.getD 0 0 = 94) (h33 : ¬ l.getD 0 0 = 33) :
    Calls Tryd.prog 5 #[.slice (some ⟨x, o, none⟩) l.length cap, .slice a1 r.length cap1, .bool false] w fun x w' => x = .returned (.bool true) ∧ Below w.heap.size w w' := by
  obtain ⟨i0, hi, hz0, hz1, hz2⟩ := info_parts byte_row
  have HS := Lib.hid hs
  have HRM := Lib.hid hr
  have HN := Lib.hid hsn
  have HCF := Lib.hid hcf
  have HNIL := Lib.hid hnil
  have hyl := hs.1
  have hyr := hr.1
  have hat : atB (ofBys l) 0 = l.getD 0 0 := by unfold atB; rw [bys_ofBys hs.1]
  have HP0 := Lib.hid (brkR_plain cf (ofBys l) (decide ((4 : Int) = 2)) (by rw [hat]; exact h94) (by rw [hat]; exact h33))
  have HP1 := Lib.hid (brkR_hat cf l (decide ((4 : Int) = 2)) hs.1)
  have HP2 := fun (q : Nat → Bool) (m : Nat) => Lib.hid (brkR_more cf l r (decide ((4 : Int) = 2)) hs.1 hr.1 (by rw [hat]; exact h94) (by rw [hat]; exact h33) (q := q) (m := m))
  have HCO := fun (c p : Nat) => Lib.hid (brkL_code (cf := cf) (s := ofBys l) (g := decide ((4 : Int) = 2)) ((ofBys l).size + 1) 0 true noP c p (Nat.zero_le _) (Nat.sub_le _ _))
  have HAW : ∀ w, Hid (Calls Tryd.prog 13 #[] w fun e w' => e = .returned (.bool true) ∧ Below w.heap.size w w') := fun w => Lib.hid (awake5_any w)
  have hlI : ((l.length : Nat) : Int) ≠ 0 := by omega
  have hlb : ((l.length : Int) == 0) = false := beq_eq_false_iff_ne.2 hlI
  have hlp : (0 : Int) < (l.length : Int) := by omega
  clear hs hr hsn hcf hnil hat
  generalize l.getD 0 0 = c0 at *
  generalize hRg : brkL cf (ofBys l) (decide ((4 : Int) = 2)) ((ofBys l).size + 1) 0 true noP = R at *
  clear hRg
  have HB0 := Lib.hid (bkt0 cf HCF.out e _ l 4 (by omega) w HN.out HS.out (by decide) HP0.out)
  go_enter Tryd.func5, Tryd.ntmps5
  go_wp2_with fail
  refine HB0.out.mono ?_
  cases R with
  | bad c p =>
    obtain ⟨hc, hpp⟩ := (HCO c p).out rfl
    rw [ofBys_size] at hpp
    rintro e' w1 ⟨v1, rfl, her, hb1⟩
    obtain ⟨kk, rfl⟩ := her.iface
    have HER := Lib.hid her
    have HB1 := Lib.hid hb1
    clear her hb1
    unfold SV
    go_wp2_with fail
    obtain ⟨wp, hV⟩ : ∃ V, V = w1.alloc (.cells #[.int .u64 (sw noP 0 : Nat), .int .u64 (sw noP 1 : Nat), .int .u64 (sw noP 2 : Nat), .int .u64 (sw noP 3 : Nat)] 24) := ⟨_, rfl⟩
    rw [← hV]
    have HBp : Hid (Below w1.heap.size w1 wp) := Lib.hid (by rw [hV]; exact (Below.refl _ _).alloc (Nat.le_refl _) _)
    have HGp : Hid (wp.heap[w1.heap.size]? = some (.cells #[.int .u64 (sw noP 0 : Nat), .int .u64 (sw noP 1 : Nat), .int .u64 (sw noP 2 : Nat), .int .u64 (sw noP 3 : Nat)] 24)) := Lib.hid (by rw [hV]; exact alloc_last _ _)
    have hzp : wp.heap.size = w1.heap.size + 1 := by rw [hV]; simp
    clear hV
    have HBwp := Lib.hid (below_thn HB1.out (Nat.le_refl _) HBp.out)
    have HSp := Lib.hid (Sl.below (Sl.below HS.out HB1.out) HBp.out)
    have hcv : (convert 28 28 (.slice (some ⟨w1.heap.size + 1, 0, none⟩) 1 1)).run Tryd.prog (wp.alloc (.cells #[.int .u8 94] 5)) = .ok (.slice (some ⟨w1.heap.size + 1, 0, none⟩) 1 1) (wp.alloc (.cells #[.int .u8 94] 5 (1, 2))) := by
      have := Lib.run_convert_bytes_const (P := Tryd.prog) wp 28 5 #[.int .u8 94] 1 1 Tryd.underlying28 Tryd.underlying5
      rw [hzp] at this
      exact this
    obtain ⟨wq, hQ⟩ : ∃ V, V = wp.alloc (.cells #[.int .u8 94] 5 (1, 2)) := ⟨_, rfl⟩
    rw [← hQ] at hcv
    have HBq : Hid (Below wp.heap.size wp wq) := Lib.hid (by rw [hQ]; exact (Below.refl _ _).alloc (Nat.le_refl _) _)
    have hcq : wq.cell? ⟨w1.heap.size + 1, 0, none⟩ = some (.int .u8 94) := by rw [hQ, ← hzp]; have e := alloc_last wp (.cells #[.int .u8 94] 5 (1, 2)); simp only [World.cell?, e]; rfl
    have hzq : wp.heap.size ≤ wq.heap.size := HBq.out.size
    clear hQ
    have HCQ := Lib.hid hcq
    clear hcq
    have HNW := Lib.hid (newsB (Sl.below HSp.out HBq.out))
    go_wp2_with (at_builtin; refine wpList_append_grows _ rfl (.tmp 45) (.tmp 46) 28 rfl 5 i0 (.int .u8 0) 1 1 Tryd.underlying28 hi hz0 hz1 hz2 rfl (by decide) (some ⟨w1.heap.size + 1, 0, none⟩) 1 1 [.int .u8 94] rfl (fun h => by cases h) rfl ?p0 ⟨x, o, none⟩ l.length cap (l.map (Value.int .u8)) rfl ?p1 HNW.out.2 (oneB l) ?p2 ?p3 ?p4 ?_)
    case p0 =>
      intro b hb j u hj
      obtain rfl := Option.some.inj hb
      match j, hj with
      | 0, hj => simp at hj; subst hj; exact HCQ.out
    case p1 => simp
    case p2 => omega
    case p3 => unfold maxLen; omega
    case p4 => omega
    intro va wa howna hgra
    have HBa : Hid (Below wp.heap.size wp wa) := Lib.hid (HBq.out.grown hgra hzq (fun k hk => by cases hk))
    have HSa := Lib.hid (slOwnedM (L := 94 :: l) howna (fun i => by cases i with | zero => simp | succ i => simpa using hyl i) (by simp; omega))
    have HBwa := Lib.hid (below_thn HBwp.out (Nat.le_refl _) HBa.out)
    clear howna hgra HNW HCQ hcv hzq
    have HNa := Lib.hid (HN.out.below HBwa.out)
    have HB2 := Lib.hid (bkt0 cf HCF.out e _ (94 :: l) 4 (by simp; omega) wa HNa.out HSa.out (by decide) HP1.out)
    have HERa := Lib.hid ((HER.out.below HBp.out).below HBa.out)
    go_wp2_with fail
    refine HB2.out.mono ?_
    rintro e' w2 ⟨v2, rfl, her2, hb2⟩
    obtain ⟨kk2, rfl⟩ := her2.iface
    have HER2 := Lib.hid her2
    have HERb := Lib.hid (HERa.out.below hb2)
    have HBw2 := Lib.hid (below_thn HBwa.out (Nat.le_refl _) hb2)
    clear her2 hb2
    unfold SV
    have HT1 : Hid (∀ W', Below w2.heap.size w2 W' → Calls Tryd.prog 16 #[.iface 87 (.pointer (some ⟨kk, 0, none⟩))] W' fun x w' => x = .returned (.agg #[.int .i64 c, .int .i64 (0 + p : Nat), .int .i64 4]) ∧ Below W'.heap.size W' w') := Lib.hid fun W' hW => tellS ((HN.out.below HBw2.out).below hW) (HERb.out.below hW) (by omega) (by omega)
    have HT2 : Hid (∀ W', Below w2.heap.size w2 W' → Calls Tryd.prog 16 #[.iface 87 (.pointer (some ⟨kk2, 0, none⟩))] W' fun x w' => x = .returned (.agg #[.int .i64 c, .int .i64 (0 + (p + 1) : Nat), .int .i64 4]) ∧ Below W'.heap.size W' w') := Lib.hid fun W' hW => tellS ((HN.out.below HBw2.out).below hW) (HER2.out.below hW) (by omega) (by omega)
    go_wp2_with fail
    refine (HT1.out _ ((Below.refl _ _).alloc (Nat.le_refl _) _)).mono ?_
    rintro e' w3 ⟨rfl, hb3⟩
    have HB3 := Lib.hid (below_thn (((Below.refl w2.heap.size w2).alloc (Nat.le_refl _) (.cells #[.int .u64 (sw noP 0 : Nat), .int .u64 (sw noP 1 : Nat), .int .u64 (sw noP 2 : Nat), .int .u64 (sw noP 3 : Nat)] 24))) (Nat.le_refl _) hb3)
    clear hb3
    go_wp2_with fail
    refine (HT2.out _ HB3.out).mono ?_
    rintro e' w4 ⟨rfl, hb4⟩
    have HB4 := Lib.hid (below_thn HBw2.out (Nat.le_refl _) (below_thn HB3.out (Nat.le_refl _) hb4))
    clear hb4
    have hw : IntKind.i64.wrap ((p : Int) + 1) = (p : Int) + 1 := by rw [IntKind.wrap_i64]; omega
    go_wp2_with fail
    refine (HAW _).out.mono ?_
    rintro e' w5 ⟨rfl, hb5⟩
    have HB5 := Lib.hid (below_thn ((HB4.out.alloc HB4.out.size (.cells #[.int .i64 c, .int .i64 p, .int .i64 4] 34)).alloc (by have := HB4.out.size; simp; omega) (.cells #[.int .i64 c, .int .i64 ((p : Int) + 1), .int .i64 4] 34)) (Nat.le_refl _) hb5)
    clear hb5
    go_wp2
    go_ret
    exact ⟨rfl, HB5.out⟩
  | ok q m =>
    have hmore := (HP2 q m).out rfl
    have hml := hmore.2
    have HMO := Lib.hid hmore.1
    clear hmore
    rintro e' w1 ⟨rfl, hb1⟩
    have HB1 := Lib.hid hb1
    clear hb1
    unfold SV
    go_wp2_with fail
    obtain ⟨wp, hV⟩ : ∃ V, V = w1.alloc (.cells #[.int .u64 (sw q 0 : Nat), .int .u64 (sw q 1 : Nat), .int .u64 (sw q 2 : Nat), .int .u64 (sw q 3 : Nat)] 24) := ⟨_, rfl⟩
    rw [← hV]
    have HBp : Hid (Below w1.heap.size w1 wp) := Lib.hid (by rw [hV]; exact (Below.refl _ _).alloc (Nat.le_refl _) _)
    have HGp : Hid (wp.heap[w1.heap.size]? = some (.cells #[.int .u64 (sw q 0 : Nat), .int .u64 (sw q 1 : Nat), .int .u64 (sw q 2 : Nat), .int .u64 (sw q 3 : Nat)] 24)) := Lib.hid (by rw [hV]; exact alloc_last _ _)
    have hzp : wp.heap.size = w1.heap.size + 1 := by rw [hV]; simp
    clear hV
    have HBwp := Lib.hid (below_thn HB1.out (Nat.le_refl _) HBp.out)
    have HSp := Lib.hid (Sl.below (Sl.below HS.out HB1.out) HBp.out)
    have hcv : (convert 28 28 (.slice (some ⟨w1.heap.size + 1, 0, none⟩) 1 1)).run Tryd.prog (wp.alloc (.cells #[.int .u8 94] 5)) = .ok (.slice (some ⟨w1.heap.size + 1, 0, none⟩) 1 1) (wp.alloc (.cells #[.int .u8 94] 5 (1, 2))) := by
      have := Lib.run_convert_bytes_const (P := Tryd.prog) wp 28 5 #[.int .u8 94] 1 1 Tryd.underlying28 Tryd.underlying5
      rw [hzp] at this
      exact this
    obtain ⟨wq, hQ⟩ : ∃ V, V = wp.alloc (.cells #[.int .u8 94] 5 (1, 2)) := ⟨_, rfl⟩
    rw [← hQ] at hcv
    have HBq : Hid (Below wp.heap.size wp wq) := Lib.hid (by rw [hQ]; exact (Below.refl _ _).alloc (Nat.le_refl _) _)
    have hcq : wq.cell? ⟨w1.heap.size + 1, 0, none⟩ = some (.int .u8 94) := by rw [hQ, ← hzp]; have e := alloc_last wp (.cells #[.int .u8 94] 5 (1, 2)); simp only [World.cell?, e]; rfl
    have hzq : wp.heap.size ≤ wq.heap.size := HBq.out.size
    clear hQ
    have HCQ := Lib.hid hcq
    clear hcq
    have HNW := Lib.hid (newsB (Sl.below HSp.out HBq.out))
    go_wp2_with (at_builtin; refine wpList_append_grows _ rfl (.tmp 45) (.tmp 46) 28 rfl 5 i0 (.int .u8 0) 1 1 Tryd.underlying28 hi hz0 hz1 hz2 rfl (by decide) (some ⟨w1.heap.size + 1, 0, none⟩) 1 1 [.int .u8 94] rfl (fun h => by cases h) rfl ?p0 ⟨x, o, none⟩ l.length cap (l.map (Value.int .u8)) rfl ?p1 HNW.out.2 (oneB l) ?p2 ?p3 ?p4 ?_)
    case p0 =>
      intro b hb j u hj
      obtain rfl := Option.some.inj hb
      match j, hj with
      | 0, hj => simp at hj; subst hj; exact HCQ.out
    case p1 => simp
    case p2 => omega
    case p3 => unfold maxLen; omega
    case p4 => omega
    intro va wa howna hgra
    have HBa : Hid (Below wp.heap.size wp wa) := Lib.hid (HBq.out.grown hgra hzq (fun k hk => by cases hk))
    have HSa := Lib.hid (slOwnedM (L := 94 :: l) howna (fun i => by cases i with | zero => simp | succ i => simpa using hyl i) (by simp; omega))
    have HBwa := Lib.hid (below_thn HBwp.out (Nat.le_refl _) HBa.out)
    clear howna hgra HNW HCQ hcv hzq
    have HNa := Lib.hid (HN.out.below HBwa.out)
    have HB2 := Lib.hid (bkt0 cf HCF.out e _ (94 :: l) 4 (by simp; omega) wa HNa.out HSa.out (by decide) HP1.out)
    have HSpa := Lib.hid (Sl.below HSp.out HBa.out)
    have HGa := Lib.hid ((HBa.out.block _ (lt_blkB HGp.out)).trans HGp.out)
    go_wp2_with fail
    refine HB2.out.mono ?_
    rintro e' w2 ⟨rfl, hb2⟩
    have HSp2 := Lib.hid (Sl.below HSpa.out hb2)
    have HG2 := Lib.hid ((hb2.block _ (lt_blkB HGa.out)).trans HGa.out)
    have HBw2 := Lib.hid (below_thn HBwa.out (Nat.le_refl _) hb2)
    clear hb2
    unfold SV
    obtain ⟨wr, hV⟩ : ∃ V, V = w2.alloc (.cells #[.int .u64 (sw (notP q) 0 : Nat), .int .u64 (sw (notP q) 1 : Nat), .int .u64 (sw (notP q) 2 : Nat), .int .u64 (sw (notP q) 3 : Nat)] 24) := ⟨_, rfl⟩
    have HBr : Hid (Below w2.heap.size w2 wr) := Lib.hid (by rw [hV]; exact (Below.refl _ _).alloc (Nat.le_refl _) _)
    have HHr : Hid (wr.heap[w2.heap.size]? = some (.cells #[.int .u64 (sw (notP q) 0 : Nat), .int .u64 (sw (notP q) 1 : Nat), .int .u64 (sw (notP q) 2 : Nat), .int .u64 (sw (notP q) 3 : Nat)] 24)) := Lib.hid (by rw [hV]; exact alloc_last _ _)
    have hzr : wr.heap.size = w2.heap.size + 1 := by rw [hV]; simp
    have HBwr := Lib.hid (below_thn HBw2.out (Nat.le_refl _) HBr.out)
    have HSr := Lib.hid (Sl.below HSp2.out HBr.out)
    have HGr := Lib.hid ((HBr.out.block _ (lt_blkB HG2.out)).trans HG2.out)
    have HRr := Lib.hid (Sl.below HRM.out HBwr.out)
    have HOL : Hid ((wr.alloc (.cells #[] 5)).ownsRow wr.heap.size 5 1 (.slice (some ⟨w2.heap.size + 1, 0, none⟩) 0 0) 0 []) := Lib.hid (by rw [← hzr]; exact World.ownsRow_made wr #[] 0 (Nat.le_refl _) (by decide) rfl)
    have HBe : Hid (Below wr.heap.size wr (wr.alloc (.cells #[] 5))) := Lib.hid ((Below.refl _ _).alloc (Nat.le_refl _) _)
    have HNT := Lib.hid (newsB (Sl.below (SlTake HSr.out m hml) HBe.out))
    subst hV
    go_wp2_with (at_builtin; refine wpList_append_own _ rfl (.tmp 76) (.tmp 79) 28 rfl (w2.alloc (.cells #[.int .u64 (sw (notP q) 0 : Nat), .int .u64 (sw (notP q) 1 : Nat), .int .u64 (sw (notP q) 2 : Nat), .int .u64 (sw (notP q) 3 : Nat)] 24)).heap.size 5 i0 (.int .u8 0) 1 1 Tryd.underlying28 hi hz0 hz1 hz2 rfl (by decide) _ 0 [] rfl HOL.out ⟨x, o, none⟩ m cap ((l.take m).map (Value.int .u8)) rfl ?q0 HNT.out.2 (oneB _) ?q3 ?q4 (by simp) ?_)
    case q0 => simp; omega
    case q3 => unfold maxLen; omega
    case q4 => omega
    intro vs ws hown hgr _
    have HBs : Hid (Below (w2.alloc (.cells #[.int .u64 (sw (notP q) 0 : Nat), .int .u64 (sw (notP q) 1 : Nat), .int .u64 (sw (notP q) 2 : Nat), .int .u64 (sw (notP q) 3 : Nat)] 24)).heap.size (w2.alloc (.cells #[.int .u64 (sw (notP q) 0 : Nat), .int .u64 (sw (notP q) 1 : Nat), .int .u64 (sw (notP q) 2 : Nat), .int .u64 (sw (notP q) 3 : Nat)] 24)) ws) := Lib.hid (HBe.out.grown hgr (by simp) (fun k hk => (HOL.out.lt k hk).1))
    have HOs : Hid (ws.ownsRow (w2.alloc (.cells #[.int .u64 (sw (notP q) 0 : Nat), .int .u64 (sw (notP q) 1 : Nat), .int .u64 (sw (notP q) 2 : Nat), .int .u64 (sw (notP q) 3 : Nat)] 24)).heap.size 5 1 vs (0 + m) ((l.take m).map (Value.int .u8))) := Lib.hid (by simpa using hown)
    clear hown hgr HNT HOL
    have HRs := Lib.hid (Sl.below HRr.out HBs.out)
    have hzs := HBs.out.size
    have key : ∀ (vt : Value) (wt : World), wt.ownsRow (w2.alloc (.cells #[.int .u64 (sw (notP q) 0 : Nat), .int .u64 (sw (notP q) 1 : Nat), .int .u64 (sw (notP q) 2 : Nat), .int .u64 (sw (notP q) 3 : Nat)] 24)).heap.size 5 1 vt (0 + m + r.length) ((l.take m).map (Value.int .u8) ++ r.map (Value.int .u8)) → Sl wt vt (l.take m ++ r) := fun vt wt h => by
      rw [← List.map_append] at h
      exact slOwnedM h (byt_app (byt_takeT hyl m) hyr) (by rw [List.length_append, List.length_take]; omega)
    have KEY := Lib.hid key
    clear key
    cases a1 with
    | none =>
      obtain ⟨hr0, rfl⟩ := HNIL.out rfl
      have hrl : r = [] := List.length_eq_zero_iff.1 hr0
      subst hrl
      go_wp2_with (at_builtin; refine wpList_append_own_none rfl (.tmp 80) (.tmp 81) 28 rfl (w2.alloc (.cells #[.int .u64 (sw (notP q) 0 : Nat), .int .u64 (sw (notP q) 1 : Nat), .int .u64 (sw (notP q) 2 : Nat), .int .u64 (sw (notP q) 3 : Nat)] 24)).heap.size 5 i0 1 Tryd.underlying28 hi vs (0 + m) ((l.take m).map (Value.int .u8)) rfl HOs.out rfl ?_)
      have HBt := HBs
      have HSt : Hid (Sl ws vs (l.take m ++ [])) := Lib.hid (KEY.out vs ws (by have := HOs.out; rw [List.map_nil, List.append_nil]; exact this))
      have HBwt := Lib.hid (below_thn HBwr.out (Nat.le_refl _) HBt.out)
      have HB3 := Lib.hid (bkt0 cf HCF.out e _ (l.take m ++ []) 4 (by rw [List.length_append, List.length_take]; omega) ws (HN.out.below HBwt.out) HSt.out (by decide) HMO.out)
      have HGt := Lib.hid ((HBt.out.block _ (lt_blkB HGr.out)).trans HGr.out)
      have HHt := Lib.hid ((HBt.out.block _ (lt_blkB HHr.out)).trans HHr.out)
      go_wp2_with fail
      refine HB3.out.mono ?_
      rintro e' w5 ⟨rfl, hb5⟩
      have HG5 := Lib.hid ((hb5.block _ (lt_blkB HGt.out)).trans HGt.out)
      have HH5 := Lib.hid ((hb5.block _ (lt_blkB HHt.out)).trans HHt.out)
      have HBw5 := Lib.hid (below_thn HBwt.out (Nat.le_refl _) hb5)
      clear hb5
      unfold SV
      go_wp2_with fail
      obtain ⟨w6, hV⟩ : ∃ V, V = w5.alloc (.cells #[.int .u64 (sw q 0 : Nat), .int .u64 (sw q 1 : Nat), .int .u64 (sw q 2 : Nat), .int .u64 (sw q 3 : Nat)] 24) := ⟨_, rfl⟩
      rw [← hV]
      have HS0 : Hid (Below w.heap.size w w6 ∧ w6.heap[w1.heap.size]? = some (.cells #[.int .u64 (sw q 0 : Nat), .int .u64 (sw q 1 : Nat), .int .u64 (sw q 2 : Nat), .int .u64 (sw q 3 : Nat)] 24) ∧ w6.heap[w2.heap.size]? = some (.cells #[.int .u64 (sw (notP q) 0 : Nat), .int .u64 (sw (notP q) 1 : Nat), .int .u64 (sw (notP q) 2 : Nat), .int .u64 (sw (notP q) 3 : Nat)] 24) ∧ w6.heap[w5.heap.size]? = some (.cells #[.int .u64 (sw q 0 : Nat), .int .u64 (sw q 1 : Nat), .int .u64 (sw q 2 : Nat), .int .u64 (sw q 3 : Nat)] 24)) := Lib.hid (by rw [hV]; exact ⟨HBw5.out.alloc HBw5.out.size _, (Below.heap_alloc _ _ _ (lt_blkB HG5.out)).trans HG5.out, (Below.heap_alloc _ _ _ (lt_blkB HH5.out)).trans HH5.out, alloc_last _ _⟩)
      clear hV
      have HNo : ∀ w, Hid (Calls Tryd.prog 17 #[.agg #[.int .u64 (sw q 0 : Nat), .int .u64 (sw q 1 : Nat), .int .u64 (sw q 2 : Nat), .int .u64 (sw q 3 : Nat)]] w fun e w' => e = .returned (SV (notP q)) ∧ Below w.heap.size w w') := fun w => Lib.hid (not_any q w)
      have hw : IntKind.i64.wrap ((m : Int) + 1) = (m : Int) + 1 := by rw [IntKind.wrap_i64]; omega
      have EQ1 := Lib.hid (eq_yesM (notP q) (notP q) (fun _ _ => rfl))
      have EQ2 := Lib.hid (eq_yesM q q (fun _ _ => rfl))
      refine Reg.wp_region_vals (fun X => Below w.heap.size w X ∧ X.heap[w1.heap.size]? = some (.cells #[.int .u64 (sw q 0 : Nat), .int .u64 (sw q 1 : Nat), .int .u64 (sw q 2 : Nat), .int .u64 (sw q 3 : Nat)] 24) ∧ X.heap[w2.heap.size]? = some (.cells #[.int .u64 (sw (notP q) 0 : Nat), .int .u64 (sw (notP q) 1 : Nat), .int .u64 (sw (notP q) 2 : Nat), .int .u64 (sw (notP q) 3 : Nat)] 24) ∧ X.heap[w5.heap.size]? = some (.cells #[.int .u64 (sw q 0 : Nat), .int .u64 (sw q 1 : Nat), .int .u64 (sw q 2 : Nat), .int .u64 (sw q 3 : Nat)] 24)) (fun j => ([some (.nilIface), some (.bool true), some (.bool true), some (.nilIface), some (.bool true), some (.bool true), some (.bool true), some (.agg #[.int .u64 (sw (notP q) 0 : Nat), .int .u64 (sw (notP q) 1 : Nat), .int .u64 (sw (notP q) 2 : Nat), .int .u64 (sw (notP q) 3 : Nat)]), some (.agg #[.int .u64 (sw q 0 : Nat), .int .u64 (sw q 1 : Nat), .int .u64 (sw q 2 : Nat), .int .u64 (sw q 3 : Nat)]), some (.agg #[.int .u64 (sw (notP q) 0 : Nat), .int .u64 (sw (notP q) 1 : Nat), .int .u64 (sw (notP q) 2 : Nat), .int .u64 (sw (notP q) 3 : Nat)]), some (.bool true), some (.bool true), some (.bool true), some (.int .i64 ((m : Int) + 1)), some (.int .i64 (m : Nat)), some (.int .i64 ((m : Int) + 1)), some (.bool true), some (.bool true), some (.bool true), some (.agg #[.int .u64 (sw q 0 : Nat), .int .u64 (sw q 1 : Nat), .int .u64 (sw q 2 : Nat), .int .u64 (sw q 3 : Nat)]), some (.agg #[.int .u64 (sw q 0 : Nat), .int .u64 (sw q 1 : Nat), .int .u64 (sw q 2 : Nat), .int .u64 (sw q 3 : Nat)]), some (.bool true), some (.bool true), some (.bool true), some (.int .i64 (m : Nat)), some (.int .i64 (m : Nat)), some (.bool true), some (.bool true), some (.bool true), some (.bool true), some (.bool true), some (.bool true)] : List (Option Value)).getD j none) (fun _ _ _ => True) (by kernel_rfl) (by kernel_rfl) (by kernel_rfl) (by kernel_rfl) ?rs0 ?rsE ?rsZ
      case rs0 => exact ⟨HS0.out.1.drew, HS0.out.2.1, HS0.out.2.2.1, HS0.out.2.2.2⟩
      case rsE =>
        refine Reg.EachV.plain rfl (fun T X hS hk K hK => ?_) ?_
        · skip
          have g13 : T[13]? = some (.nilIface) := hk.old 13 (by kernel_rfl) rfl
          have hK := hK _ X hS (Reg.Is.of_val rfl) (fun _ _ _ h => h)
          clear hk
          go_simp
          exact hK
        refine Reg.EachV.plain rfl (fun T X hS hk K hK => ?_) ?_
        · skip
          have g88 : T[88]? = some (.nilIface) := hk.val 0 88 (by kernel_rfl) (by kernel_rfl) rfl
          have hK := hK _ X hS (Reg.Is.of_val rfl) (fun _ _ _ h => h)
          clear hk
          go_simp
          exact hK
        refine Reg.EachV.plain rfl (fun T X hS hk K hK => ?_) ?_
        · skip
          have g89 : T[89]? = some (.bool true) := hk.val 1 89 (by kernel_rfl) (by kernel_rfl) rfl
          have hK := hK _ X hS (Reg.Is.of_val rfl) (fun _ _ _ h => h)
          clear hk
          go_simp
          exact hK
        refine Reg.EachV.guarded 2 90 true rfl (by kernel_rfl) (by kernel_rfl) rfl (fun T X hS hk K hK => ?_) ?_
        · skip
          have g18 : T[18]? = some (.nilIface) := hk.old 18 (by kernel_rfl) rfl
          have hK := hK _ X hS (Reg.Is.of_val rfl) (fun _ _ _ h => h)
          clear hk
          go_simp
          exact hK
        refine Reg.EachV.guarded 2 90 true rfl (by kernel_rfl) (by kernel_rfl) rfl (fun T X hS hk K hK => ?_) ?_
        · skip
          have g91 : T[91]? = some (.nilIface) := hk.val 3 91 (by kernel_rfl) (by kernel_rfl) rfl
          have hK := hK _ X hS (Reg.Is.of_val rfl) (fun _ _ _ h => h)
          clear hk
          go_simp
          exact hK
        refine Reg.EachV.plain rfl (fun T X hS hk K hK => ?_) ?_
        · skip
          have g90 : T[90]? = some (.bool true) := hk.val 2 90 (by kernel_rfl) (by kernel_rfl) rfl
          have g92 : T[92]? = some (.bool true) := hk.val 4 92 (by kernel_rfl) (by kernel_rfl) rfl
          have hK := hK _ X hS (Reg.Is.of_val rfl) (fun _ _ _ h => h)
          clear hk
          go_simp
          exact hK
        refine Reg.EachV.plain rfl (fun T X hS hk K hK => ?_) ?_
        · skip
          have g93 : T[93]? = some (.bool true) := hk.val 5 93 (by kernel_rfl) (by kernel_rfl) rfl
          have hK := hK _ X hS (Reg.Is.of_val rfl) (fun _ _ _ h => h)
          clear hk
          go_simp
          exact hK
        refine Reg.EachV.guarded 6 94 true rfl (by kernel_rfl) (by kernel_rfl) rfl (fun T X hS hk K hK => ?_) ?_
        · skip
          have g11 : T[11]? = some (.pointer (some ⟨w2.heap.size, 0, none⟩)) := hk.old 11 (by kernel_rfl) rfl
          obtain ⟨⟨y0, y1, y2, y3⟩, _, _⟩ := cells4 hS.2.2.1
          have hK := hK _ X hS (Reg.Is.of_val rfl) (fun _ _ _ h => h)
          clear hk
          go_simp
          exact hK
        refine Reg.EachV.guarded 6 94 true rfl (by kernel_rfl) (by kernel_rfl) rfl (fun T X hS hk K hK => ?_) ?_
        · skip
          have g8 : T[8]? = some (.pointer (some ⟨w1.heap.size, 0, none⟩)) := hk.old 8 (by kernel_rfl) rfl
          obtain ⟨⟨y0, y1, y2, y3⟩, _, _⟩ := cells4 hS.2.1
          have hK := hK _ X hS (Reg.Is.of_val rfl) (fun _ _ _ h => h)
          clear hk
          go_simp
          exact hK
        refine Reg.EachV.guarded 6 94 true rfl (by kernel_rfl) (by kernel_rfl) rfl (fun T X hS hk K hK => ?_) ?_
        · skip
          have g96 : T[96]? = some (.agg #[.int .u64 (sw q 0 : Nat), .int .u64 (sw q 1 : Nat), .int .u64 (sw q 2 : Nat), .int .u64 (sw q 3 : Nat)]) := hk.val 8 96 (by kernel_rfl) (by kernel_rfl) rfl
          clear hk
          go_simp
          refine ((HNo _).out).mono ?_
          rintro e w1 ⟨rfl, hb⟩
          exact hK _ _ (⟨below_thn hS.1 (Nat.le_refl _) hb, (hb.block _ (lt_blkB hS.2.1)).trans hS.2.1, (hb.block _ (lt_blkB hS.2.2.1)).trans hS.2.2.1, (hb.block _ (lt_blkB hS.2.2.2)).trans hS.2.2.2⟩) (Reg.Is.of_val rfl) (fun _ _ _ h => h)
        refine Reg.EachV.guarded 6 94 true rfl (by kernel_rfl) (by kernel_rfl) rfl (fun T X hS hk K hK => ?_) ?_
        · skip
          have g95 : T[95]? = some (.agg #[.int .u64 (sw (notP q) 0 : Nat), .int .u64 (sw (notP q) 1 : Nat), .int .u64 (sw (notP q) 2 : Nat), .int .u64 (sw (notP q) 3 : Nat)]) := hk.val 7 95 (by kernel_rfl) (by kernel_rfl) rfl
          have g97 : T[97]? = some (.agg #[.int .u64 (sw (notP q) 0 : Nat), .int .u64 (sw (notP q) 1 : Nat), .int .u64 (sw (notP q) 2 : Nat), .int .u64 (sw (notP q) 3 : Nat)]) := hk.val 9 97 (by kernel_rfl) (by kernel_rfl) rfl
          have q1 := EQ1.out
          have hK := hK _ X hS (Reg.Is.of_val rfl) (fun _ _ _ h => h)
          clear hk
          go_simp
          exact hK
        refine Reg.EachV.plain rfl (fun T X hS hk K hK => ?_) ?_
        · skip
          have g94 : T[94]? = some (.bool true) := hk.val 6 94 (by kernel_rfl) (by kernel_rfl) rfl
          have g98 : T[98]? = some (.bool true) := hk.val 10 98 (by kernel_rfl) (by kernel_rfl) rfl
          have hK := hK _ X hS (Reg.Is.of_val rfl) (fun _ _ _ h => h)
          clear hk
          go_simp
          exact hK
        refine Reg.EachV.plain rfl (fun T X hS hk K hK => ?_) ?_
        · skip
          have g99 : T[99]? = some (.bool true) := hk.val 11 99 (by kernel_rfl) (by kernel_rfl) rfl
          have hK := hK _ X hS (Reg.Is.of_val rfl) (fun _ _ _ h => h)
          clear hk
          go_simp
          exact hK
        refine Reg.EachV.guarded 12 100 true rfl (by kernel_rfl) (by kernel_rfl) rfl (fun T X hS hk K hK => ?_) ?_
        · skip
          have g12 : T[12]? = some (.int .i64 ((m : Int) + 1)) := hk.old 12 (by kernel_rfl) rfl
          have hK := hK _ X hS (Reg.Is.of_val rfl) (fun _ _ _ h => h)
          clear hk
          go_simp
          exact hK
        refine Reg.EachV.guarded 12 100 true rfl (by kernel_rfl) (by kernel_rfl) rfl (fun T X hS hk K hK => ?_) ?_
        · skip
          have g9 : T[9]? = some (.int .i64 (m : Nat)) := hk.old 9 (by kernel_rfl) rfl
          have hK := hK _ X hS (Reg.Is.of_val rfl) (fun _ _ _ h => h)
          clear hk
          go_simp
          exact hK
        refine Reg.EachV.guarded 12 100 true rfl (by kernel_rfl) (by kernel_rfl) rfl (fun T X hS hk K hK => ?_) ?_
        · skip
          have g102 : T[102]? = some (.int .i64 (m : Nat)) := hk.val 14 102 (by kernel_rfl) (by kernel_rfl) rfl
          have hK := hK _ X hS (Reg.Is.of_val rfl) (fun _ _ _ h => h)
          clear hk
          go_simp
          exact hK
        refine Reg.EachV.guarded 12 100 true rfl (by kernel_rfl) (by kernel_rfl) rfl (fun T X hS hk K hK => ?_) ?_
        · skip
          have g101 : T[101]? = some (.int .i64 ((m : Int) + 1)) := hk.val 13 101 (by kernel_rfl) (by kernel_rfl) rfl
          have g103 : T[103]? = some (.int .i64 ((m : Int) + 1)) := hk.val 15 103 (by kernel_rfl) (by kernel_rfl) rfl
          have hK := hK _ X hS (Reg.Is.of_val rfl) (fun _ _ _ h => h)
          clear hk
          go_simp
          exact hK
        refine Reg.EachV.plain rfl (fun T X hS hk K hK => ?_) ?_
        · skip
          have g100 : T[100]? = some (.bool true) := hk.val 12 100 (by kernel_rfl) (by kernel_rfl) rfl
          have g104 : T[104]? = some (.bool true) := hk.val 16 104 (by kernel_rfl) (by kernel_rfl) rfl
          have hK := hK _ X hS (Reg.Is.of_val rfl) (fun _ _ _ h => h)
          clear hk
          go_simp
          exact hK
        refine Reg.EachV.plain rfl (fun T X hS hk K hK => ?_) ?_
        · skip
          have g105 : T[105]? = some (.bool true) := hk.val 17 105 (by kernel_rfl) (by kernel_rfl) rfl
          have hK := hK _ X hS (Reg.Is.of_val rfl) (fun _ _ _ h => h)
          clear hk
          go_simp
          exact hK
        refine Reg.EachV.guarded 18 106 true rfl (by kernel_rfl) (by kernel_rfl) rfl (fun T X hS hk K hK => ?_) ?_
        · skip
          have g16 : T[16]? = some (.pointer (some ⟨w5.heap.size, 0, none⟩)) := hk.old 16 (by kernel_rfl) rfl
          obtain ⟨⟨y0, y1, y2, y3⟩, _, _⟩ := cells4 hS.2.2.2
          have hK := hK _ X hS (Reg.Is.of_val rfl) (fun _ _ _ h => h)
          clear hk
          go_simp
          exact hK
        refine Reg.EachV.guarded 18 106 true rfl (by kernel_rfl) (by kernel_rfl) rfl (fun T X hS hk K hK => ?_) ?_
        · skip
          have g8 : T[8]? = some (.pointer (some ⟨w1.heap.size, 0, none⟩)) := hk.old 8 (by kernel_rfl) rfl
          obtain ⟨⟨y0, y1, y2, y3⟩, _, _⟩ := cells4 hS.2.1
          have hK := hK _ X hS (Reg.Is.of_val rfl) (fun _ _ _ h => h)
          clear hk
          go_simp
          exact hK
        refine Reg.EachV.guarded 18 106 true rfl (by kernel_rfl) (by kernel_rfl) rfl (fun T X hS hk K hK => ?_) ?_
        · skip
          have g107 : T[107]? = some (.agg #[.int .u64 (sw q 0 : Nat), .int .u64 (sw q 1 : Nat), .int .u64 (sw q 2 : Nat), .int .u64 (sw q 3 : Nat)]) := hk.val 19 107 (by kernel_rfl) (by kernel_rfl) rfl
          have g108 : T[108]? = some (.agg #[.int .u64 (sw q 0 : Nat), .int .u64 (sw q 1 : Nat), .int .u64 (sw q 2 : Nat), .int .u64 (sw q 3 : Nat)]) := hk.val 20 108 (by kernel_rfl) (by kernel_rfl) rfl
          have q1 := EQ2.out
          have hK := hK _ X hS (Reg.Is.of_val rfl) (fun _ _ _ h => h)
          clear hk
          go_simp
          exact hK
        refine Reg.EachV.plain rfl (fun T X hS hk K hK => ?_) ?_
        · skip
          have g106 : T[106]? = some (.bool true) := hk.val 18 106 (by kernel_rfl) (by kernel_rfl) rfl
          have g109 : T[109]? = some (.bool true) := hk.val 21 109 (by kernel_rfl) (by kernel_rfl) rfl
          have hK := hK _ X hS (Reg.Is.of_val rfl) (fun _ _ _ h => h)
          clear hk
          go_simp
          exact hK
        refine Reg.EachV.plain rfl (fun T X hS hk K hK => ?_) ?_
        · skip
          have g110 : T[110]? = some (.bool true) := hk.val 22 110 (by kernel_rfl) (by kernel_rfl) rfl
          have hK := hK _ X hS (Reg.Is.of_val rfl) (fun _ _ _ h => h)
          clear hk
          go_simp
          exact hK
        refine Reg.EachV.guarded 23 111 true rfl (by kernel_rfl) (by kernel_rfl) rfl (fun T X hS hk K hK => ?_) ?_
        · skip
          have g17 : T[17]? = some (.int .i64 (m : Nat)) := hk.old 17 (by kernel_rfl) rfl
          have hK := hK _ X hS (Reg.Is.of_val rfl) (fun _ _ _ h => h)
          clear hk
          go_simp
          exact hK
        refine Reg.EachV.guarded 23 111 true rfl (by kernel_rfl) (by kernel_rfl) rfl (fun T X hS hk K hK => ?_) ?_
        · skip
          have g9 : T[9]? = some (.int .i64 (m : Nat)) := hk.old 9 (by kernel_rfl) rfl
          have hK := hK _ X hS (Reg.Is.of_val rfl) (fun _ _ _ h => h)
          clear hk
          go_simp
          exact hK
        refine Reg.EachV.guarded 23 111 true rfl (by kernel_rfl) (by kernel_rfl) rfl (fun T X hS hk K hK => ?_) ?_
        · skip
          have g112 : T[112]? = some (.int .i64 (m : Nat)) := hk.val 24 112 (by kernel_rfl) (by kernel_rfl) rfl
          have g113 : T[113]? = some (.int .i64 (m : Nat)) := hk.val 25 113 (by kernel_rfl) (by kernel_rfl) rfl
          have hK := hK _ X hS (Reg.Is.of_val rfl) (fun _ _ _ h => h)
          clear hk
          go_simp
          exact hK
        refine Reg.EachV.plain rfl (fun T X hS hk K hK => ?_) ?_
        · skip
          have g111 : T[111]? = some (.bool true) := hk.val 23 111 (by kernel_rfl) (by kernel_rfl) rfl
          have g114 : T[114]? = some (.bool true) := hk.val 26 114 (by kernel_rfl) (by kernel_rfl) rfl
          have hK := hK _ X hS (Reg.Is.of_val rfl) (fun _ _ _ h => h)
          clear hk
          go_simp
          exact hK
        refine Reg.EachV.plain rfl (fun T X hS hk K hK => ?_) ?_
        · skip
          have g115 : T[115]? = some (.bool true) := hk.val 27 115 (by kernel_rfl) (by kernel_rfl) rfl
          have hK := hK _ X hS (Reg.Is.of_val rfl) (fun _ _ _ h => h)
          clear hk
          go_simp
          exact hK
        refine Reg.EachV.guarded 28 116 true rfl (by kernel_rfl) (by kernel_rfl) rfl (fun T X hS hk K hK => ?_) ?_
        · skip
          clear hk
          go_simp
          refine ((HAW _).out).mono ?_
          rintro e w1 ⟨rfl, hb⟩
          exact hK _ _ (⟨below_thn hS.1 (Nat.le_refl _) hb, (hb.block _ (lt_blkB hS.2.1)).trans hS.2.1, (hb.block _ (lt_blkB hS.2.2.1)).trans hS.2.2.1, (hb.block _ (lt_blkB hS.2.2.2)).trans hS.2.2.2⟩) (Reg.Is.of_val rfl) (fun _ _ _ h => h)
        refine Reg.EachV.plain rfl (fun T X hS hk K hK => ?_) ?_
        · skip
          have g116 : T[116]? = some (.bool true) := hk.val 28 116 (by kernel_rfl) (by kernel_rfl) rfl
          have g117 : T[117]? = some (.bool true) := hk.val 29 117 (by kernel_rfl) (by kernel_rfl) rfl
          have hK := hK _ X hS (Reg.Is.of_val rfl) (fun _ _ _ h => h)
          clear hk
          go_simp
          exact hK
        refine Reg.EachV.plain rfl (fun T X hS hk K hK => ?_) ?_
        · skip
          have g118 : T[118]? = some (.bool true) := hk.val 30 118 (by kernel_rfl) (by kernel_rfl) rfl
          have hK := hK _ X hS (Reg.Is.of_val rfl) (fun _ _ _ h => h)
          clear hk
          go_simp
          exact hK
        exact Reg.EachV.nil
      case rsZ =>
        intro u w1 hS hI
        have e0 : u 0 = .nilIface := (hI 0 (by decide)).val rfl
        have e1 : u 1 = .bool true := (hI 1 (by decide)).val rfl
        have e2 : u 2 = .bool true := (hI 2 (by decide)).val rfl
        have e3 : u 3 = .nilIface := (hI 3 (by decide)).val rfl
        have e4 : u 4 = .bool true := (hI 4 (by decide)).val rfl
        have e5 : u 5 = .bool true := (hI 5 (by decide)).val rfl
        have e6 : u 6 = .bool true := (hI 6 (by decide)).val rfl
        have e7 : u 7 = .agg #[.int .u64 (sw (notP q) 0 : Nat), .int .u64 (sw (notP q) 1 : Nat), .int .u64 (sw (notP q) 2 : Nat), .int .u64 (sw (notP q) 3 : Nat)] := (hI 7 (by decide)).val rfl
        have e8 : u 8 = .agg #[.int .u64 (sw q 0 : Nat), .int .u64 (sw q 1 : Nat), .int .u64 (sw q 2 : Nat), .int .u64 (sw q 3 : Nat)] := (hI 8 (by decide)).val rfl
        have e9 : u 9 = .agg #[.int .u64 (sw (notP q) 0 : Nat), .int .u64 (sw (notP q) 1 : Nat), .int .u64 (sw (notP q) 2 : Nat), .int .u64 (sw (notP q) 3 : Nat)] := (hI 9 (by decide)).val rfl
        have e10 : u 10 = .bool true := (hI 10 (by decide)).val rfl
        have e11 : u 11 = .bool true := (hI 11 (by decide)).val rfl
        have e12 : u 12 = .bool true := (hI 12 (by decide)).val rfl
        have e13 : u 13 = .int .i64 ((m : Int) + 1) := (hI 13 (by decide)).val rfl
        have e14 : u 14 = .int .i64 (m : Nat) := (hI 14 (by decide)).val rfl
        have e15 : u 15 = .int .i64 ((m : Int) + 1) := (hI 15 (by decide)).val rfl
        have e16 : u 16 = .bool true := (hI 16 (by decide)).val rfl
        have e17 : u 17 = .bool true := (hI 17 (by decide)).val rfl
        have e18 : u 18 = .bool true := (hI 18 (by decide)).val rfl
        have e19 : u 19 = .agg #[.int .u64 (sw q 0 : Nat), .int .u64 (sw q 1 : Nat), .int .u64 (sw q 2 : Nat), .int .u64 (sw q 3 : Nat)] := (hI 19 (by decide)).val rfl
        have e20 : u 20 = .agg #[.int .u64 (sw q 0 : Nat), .int .u64 (sw q 1 : Nat), .int .u64 (sw q 2 : Nat), .int .u64 (sw q 3 : Nat)] := (hI 20 (by decide)).val rfl
        have e21 : u 21 = .bool true := (hI 21 (by decide)).val rfl
        have e22 : u 22 = .bool true := (hI 22 (by decide)).val rfl
        have e23 : u 23 = .bool true := (hI 23 (by decide)).val rfl
        have e24 : u 24 = .int .i64 (m : Nat) := (hI 24 (by decide)).val rfl
        have e25 : u 25 = .int .i64 (m : Nat) := (hI 25 (by decide)).val rfl
        have e26 : u 26 = .bool true := (hI 26 (by decide)).val rfl
        have e27 : u 27 = .bool true := (hI 27 (by decide)).val rfl
        have e28 : u 28 = .bool true := (hI 28 (by decide)).val rfl
        have e29 : u 29 = .bool true := (hI 29 (by decide)).val rfl
        have e30 : u 30 = .bool true := (hI 30 (by decide)).val rfl
        have e31 : u 31 = .bool true := (hI 31 (by decide)).val rfl
        clear hI
        simp only [Reg.putAll, Act.put, List.setIfInBounds_toArray, List.set_cons_succ, List.set_cons_zero, Nat.zero_add, Nat.reduceAdd, e0, e1, e2, e3, e4, e5, e6, e7, e8, e9, e10, e11, e12, e13, e14, e15, e16, e17, e18, e19, e20, e21, e22, e23, e24, e25, e26, e27, e28, e29, e30, e31]
        clear e0 e1 e2 e3 e4 e5 e6 e7 e8 e9 e10 e11 e12 e13 e14 e15 e16 e17 e18 e19 e20 e21 e22 e23 e24 e25 e26 e27 e28 e29 e30 e31
        have HBF := Lib.hid hS.1
        clear hS
        go_wp2
        go_ret
        exact ⟨rfl, HBF.out⟩
    | some a1 =>
      have HNR := Lib.hid (newsB HRs.out)
      go_wp2_with (at_builtin; refine wpList_append_own _ rfl (.tmp 80) (.tmp 81) 28 rfl (w2.alloc (.cells #[.int .u64 (sw (notP q) 0 : Nat), .int .u64 (sw (notP q) 1 : Nat), .int .u64 (sw (notP q) 2 : Nat), .int .u64 (sw (notP q) 3 : Nat)] 24)).heap.size 5 i0 (.int .u8 0) 1 1 Tryd.underlying28 hi hz0 hz1 hz2 rfl (by decide) vs (0 + m) ((l.take m).map (Value.int .u8)) rfl HOs.out a1 r.length cap1 (r.map (Value.int .u8)) rfl ?r0 HNR.out.2 (oneB r) ?r3 ?r4 hzs ?_)
      case r3 => unfold maxLen; omega
      case r4 => omega
      intro vt wt hown hgr _
      have HBt : Hid (Below (w2.alloc (.cells #[.int .u64 (sw (notP q) 0 : Nat), .int .u64 (sw (notP q) 1 : Nat), .int .u64 (sw (notP q) 2 : Nat), .int .u64 (sw (notP q) 3 : Nat)] 24)).heap.size (w2.alloc (.cells #[.int .u64 (sw (notP q) 0 : Nat), .int .u64 (sw (notP q) 1 : Nat), .int .u64 (sw (notP q) 2 : Nat), .int .u64 (sw (notP q) 3 : Nat)] 24)) wt) := Lib.hid (HBs.out.grown hgr hzs (fun k hk => (HOs.out.lt k hk).1))
      have HSt : Hid (Sl wt vt (l.take m ++ r)) := Lib.hid (KEY.out vt wt (by simpa using hown))
      clear hown hgr
      have HBwt := Lib.hid (below_thn HBwr.out (Nat.le_refl _) HBt.out)
      have HB3 := Lib.hid (bkt0 cf HCF.out e _ (l.take m ++ r) 4 (by rw [List.length_append, List.length_take]; omega) wt (HN.out.below HBwt.out) HSt.out (by decide) HMO.out)
      have HGt := Lib.hid ((HBt.out.block _ (lt_blkB HGr.out)).trans HGr.out)
      have HHt := Lib.hid ((HBt.out.block _ (lt_blkB HHr.out)).trans HHr.out)
      go_wp2_with fail
      refine HB3.out.mono ?_
      rintro e' w5 ⟨rfl, hb5⟩
      have HG5 := Lib.hid ((hb5.block _ (lt_blkB HGt.out)).trans HGt.out)
      have HH5 := Lib.hid ((hb5.block _ (lt_blkB HHt.out)).trans HHt.out)
      have HBw5 := Lib.hid (below_thn HBwt.out (Nat.le_refl _) hb5)
      clear hb5
      unfold SV
      go_wp2_with fail
      obtain ⟨w6, hV⟩ : ∃ V, V = w5.alloc (.cells #[.int .u64 (sw q 0 : Nat), .int .u64 (sw q 1 : Nat), .int .u64 (sw q 2 : Nat), .int .u64 (sw q 3 : Nat)] 24) := ⟨_, rfl⟩
      rw [← hV]
      have HS0 : Hid (Below w.heap.size w w6 ∧ w6.heap[w1.heap.size]? = some (.cells #[.int .u64 (sw q 0 : Nat), .int .u64 (sw q 1 : Nat), .int .u64 (sw q 2 : Nat), .int .u64 (sw q 3 : Nat)] 24) ∧ w6.heap[w2.heap.size]? = some (.cells #[.int .u64 (sw (notP q) 0 : Nat), .int .u64 (sw (notP q) 1 : Nat), .int .u64 (sw (notP q) 2 : Nat), .int .u64 (sw (notP q) 3 : Nat)] 24) ∧ w6.heap[w5.heap.size]? = some (.cells #[.int .u64 (sw q 0 : Nat), .int .u64 (sw q 1 : Nat), .int .u64 (sw q 2 : Nat), .int .u64 (sw q 3 : Nat)] 24)) := Lib.hid (by rw [hV]; exact ⟨HBw5.out.alloc HBw5.out.size _, (Below.heap_alloc _ _ _ (lt_blkB HG5.out)).trans HG5.out, (Below.heap_alloc _ _ _ (lt_blkB HH5.out)).trans HH5.out, alloc_last _ _⟩)
      clear hV
      have HNo : ∀ w, Hid (Calls Tryd.prog 17 #[.agg #[.int .u64 (sw q 0 : Nat), .int .u64 (sw q 1 : Nat), .int .u64 (sw q 2 : Nat), .int .u64 (sw q 3 : Nat)]] w fun e w' => e = .returned (SV (notP q)) ∧ Below w.heap.size w w') := fun w => Lib.hid (not_any q w)
      have hw : IntKind.i64.wrap ((m : Int) + 1) = (m : Int) + 1 := by rw [IntKind.wrap_i64]; omega
      have EQ1 := Lib.hid (eq_yesM (notP q) (notP q) (fun _ _ => rfl))
      have EQ2 := Lib.hid (eq_yesM q q (fun _ _ => rfl))
      refine Reg.wp_region_vals (fun X => Below w.heap.size w X ∧ X.heap[w1.heap.size]? = some (.cells #[.int .u64 (sw q 0 : Nat), .int .u64 (sw q 1 : Nat), .int .u64 (sw q 2 : Nat), .int .u64 (sw q 3 : Nat)] 24) ∧ X.heap[w2.heap.size]? = some (.cells #[.int .u64 (sw (notP q) 0 : Nat), .int .u64 (sw (notP q) 1 : Nat), .int .u64 (sw (notP q) 2 : Nat), .int .u64 (sw (notP q) 3 : Nat)] 24) ∧ X.heap[w5.heap.size]? = some (.cells #[.int .u64 (sw q 0 : Nat), .int .u64 (sw q 1 : Nat), .int .u64 (sw q 2 : Nat), .int .u64 (sw q 3 : Nat)] 24)) (fun j => ([some (.nilIface), some (.bool true), some (.bool true), some (.nilIface), some (.bool true), some (.bool true), some (.bool true), some (.agg #[.int .u64 (sw (notP q) 0 : Nat), .int .u64 (sw (notP q) 1 : Nat), .int .u64 (sw (notP q) 2 : Nat), .int .u64 (sw (notP q) 3 : Nat)]), some (.agg #[.int .u64 (sw q 0 : Nat), .int .u64 (sw q 1 : Nat), .int .u64 (sw q 2 : Nat), .int .u64 (sw q 3 : Nat)]), some (.agg #[.int .u64 (sw (notP q) 0 : Nat), .int .u64 (sw (notP q) 1 : Nat), .int .u64 (sw (notP q) 2 : Nat), .int .u64 (sw (notP q) 3 : Nat)]), some (.bool true), some (.bool true), some (.bool true), some (.int .i64 ((m : Int) + 1)), some (.int .i64 (m : Nat)), some (.int .i64 ((m : Int) + 1)), some (.bool true), some (.bool true), some (.bool true), some (.agg #[.int .u64 (sw q 0 : Nat), .int .u64 (sw q 1 : Nat), .int .u64 (sw q 2 : Nat), .int .u64 (sw q 3 : Nat)]), some (.agg #[.int .u64 (sw q 0 : Nat), .int .u64 (sw q 1 : Nat), .int .u64 (sw q 2 : Nat), .int .u64 (sw q 3 : Nat)]), some (.bool true), some (.bool true), some (.bool true), some (.int .i64 (m : Nat)), some (.int .i64 (m : Nat)), some (.bool true), some (.bool true), some (.bool true), some (.bool true), some (.bool true), some (.bool true)] : List (Option Value)).getD j none) (fun _ _ _ => True) (by kernel_rfl) (by kernel_rfl) (by kernel_rfl) (by kernel_rfl) ?rs0 ?rsE ?rsZ
      case rs0 => exact ⟨HS0.out.1.drew, HS0.out.2.1, HS0.out.2.2.1, HS0.out.2.2.2⟩
      case rsE =>
        refine Reg.EachV.plain rfl (fun T X hS hk K hK => ?_) ?_
        · skip
          have g13 : T[13]? = some (.nilIface) := hk.old 13 (by kernel_rfl) rfl
          have hK := hK _ X hS (Reg.Is.of_val rfl) (fun _ _ _ h => h)
          clear hk
          go_simp
          exact hK
        refine Reg.EachV.plain rfl (fun T X hS hk K hK => ?_) ?_
        · skip
          have g88 : T[88]? = some (.nilIface) := hk.val 0 88 (by kernel_rfl) (by kernel_rfl) rfl
          have hK := hK _ X hS (Reg.Is.of_val rfl) (fun _ _ _ h => h)
          clear hk
          go_simp
          exact hK
        refine Reg.EachV.plain rfl (fun T X hS hk K hK => ?_) ?_
        · skip
          have g89 : T[89]? = some (.bool true) := hk.val 1 89 (by kernel_rfl) (by kernel_rfl) rfl
          have hK := hK _ X hS (Reg.Is.of_val rfl) (fun _ _ _ h => h)
          clear hk
          go_simp
          exact hK
        refine Reg.EachV.guarded 2 90 true rfl (by kernel_rfl) (by kernel_rfl) rfl (fun T X hS hk K hK => ?_) ?_
        · skip
          have g18 : T[18]? = some (.nilIface) := hk.old 18 (by kernel_rfl) rfl
          have hK := hK _ X hS (Reg.Is.of_val rfl) (fun _ _ _ h => h)
          clear hk
          go_simp
          exact hK
        refine Reg.EachV.guarded 2 90 true rfl (by kernel_rfl) (by kernel_rfl) rfl (fun T X hS hk K hK => ?_) ?_
        · skip
          have g91 : T[91]? = some (.nilIface) := hk.val 3 91 (by kernel_rfl) (by kernel_rfl) rfl
          have hK := hK _ X hS (Reg.Is.of_val rfl) (fun _ _ _ h => h)
          clear hk
          go_simp
          exact hK
        refine Reg.EachV.plain rfl (fun T X hS hk K hK => ?_) ?_
        · skip
          have g90 : T[90]? = some (.bool true) := hk.val 2 90 (by kernel_rfl) (by kernel_rfl) rfl
          have g92 : T[92]? = some (.bool true) := hk.val 4 92 (by kernel_rfl) (by kernel_rfl) rfl
          have hK := hK _ X hS (Reg.Is.of_val rfl) (fun _ _ _ h => h)
          clear hk
          go_simp
          exact hK
        refine Reg.EachV.plain rfl (fun T X hS hk K hK => ?_) ?_
        · skip
          have g93 : T[93]? = some (.bool true) := hk.val 5 93 (by kernel_rfl) (by kernel_rfl) rfl
          have hK := hK _ X hS (Reg.Is.of_val rfl) (fun _ _ _ h => h)
          clear hk
          go_simp
          exact hK
        refine Reg.EachV.guarded 6 94 true rfl (by kernel_rfl) (by kernel_rfl) rfl (fun T X hS hk K hK => ?_) ?_
        · skip
          have g11 : T[11]? = some (.pointer (some ⟨w2.heap.size, 0, none⟩)) := hk.old 11 (by kernel_rfl) rfl
          obtain ⟨⟨y0, y1, y2, y3⟩, _, _⟩ := cells4 hS.2.2.1
          have hK := hK _ X hS (Reg.Is.of_val rfl) (fun _ _ _ h => h)
          clear hk
          go_simp
          exact hK
        refine Reg.EachV.guarded 6 94 true rfl (by kernel_rfl) (by kernel_rfl) rfl (fun T X hS hk K hK => ?_) ?_
        · skip
          have g8 : T[8]? = some (.pointer (some ⟨w1.heap.size, 0, none⟩)) := hk.old 8 (by kernel_rfl) rfl
          obtain ⟨⟨y0, y1, y2, y3⟩, _, _⟩ := cells4 hS.2.1
          have hK := hK _ X hS (Reg.Is.of_val rfl) (fun _ _ _ h => h)
          clear hk
          go_simp
          exact hK
        refine Reg.EachV.guarded 6 94 true rfl (by kernel_rfl) (by kernel_rfl) rfl (fun T X hS hk K hK => ?_) ?_
        · skip
          have g96 : T[96]? = some (.agg #[.int .u64 (sw q 0 : Nat), .int .u64 (sw q 1 : Nat), .int .u64 (sw q 2 : Nat), .int .u64 (sw q 3 : Nat)]) := hk.val 8 96 (by kernel_rfl) (by kernel_rfl) rfl
          clear hk
          go_simp
          refine ((HNo _).out).mono ?_
          rintro e w1 ⟨rfl, hb⟩
          exact hK _ _ (⟨below_thn hS.1 (Nat.le_refl _) hb, (hb.block _ (lt_blkB hS.2.1)).trans hS.2.1, (hb.block _ (lt_blkB hS.2.2.1)).trans hS.2.2.1, (hb.block _ (lt_blkB hS.2.2.2)).trans hS.2.2.2⟩) (Reg.Is.of_val rfl) (fun _ _ _ h => h)
        refine Reg.EachV.guarded 6 94 true rfl (by kernel_rfl) (by kernel_rfl) rfl (fun T X hS hk K hK => ?_) ?_
        · skip
          have g95 : T[95]? = some (.agg #[.int .u64 (sw (notP q) 0 : Nat), .int .u64 (sw (notP q) 1 : Nat), .int .u64 (sw (notP q) 2 : Nat), .int .u64 (sw (notP q) 3 : Nat)]) := hk.val 7 95 (by kernel_rfl) (by kernel_rfl) rfl
          have g97 : T[97]? = some (.agg #[.int .u64 (sw (notP q) 0 : Nat), .int .u64 (sw (notP q) 1 : Nat), .int .u64 (sw (notP q) 2 : Nat), .int .u64 (sw (notP q) 3 : Nat)]) := hk.val 9 97 (by kernel_rfl) (by kernel_rfl) rfl
          have q1 := EQ1.out
          have hK := hK _ X hS (Reg.Is.of_val rfl) (fun _ _ _ h => h)
          clear hk
          go_simp
          exact hK
        refine Reg.EachV.plain rfl (fun T X hS hk K hK => ?_) ?_
        · skip
          have g94 : T[94]? = some (.bool true) := hk.val 6 94 (by kernel_rfl) (by kernel_rfl) rfl
          have g98 : T[98]? = some (.bool true) := hk.val 10 98 (by kernel_rfl) (by kernel_rfl) rfl
          have hK := hK _ X hS (Reg.Is.of_val rfl) (fun _ _ _ h => h)
          clear hk
          go_simp
          exact hK
        refine Reg.EachV.plain rfl (fun T X hS hk K hK => ?_) ?_
        · skip
          have g99 : T[99]? = some (.bool true) := hk.val 11 99 (by kernel_rfl) (by kernel_rfl) rfl
          have hK := hK _ X hS (Reg.Is.of_val rfl) (fun _ _ _ h => h)
          clear hk
          go_simp
          exact hK
        refine Reg.EachV.guarded 12 100 true rfl (by kernel_rfl) (by kernel_rfl) rfl (fun T X hS hk K hK => ?_) ?_
        · skip
          have g12 : T[12]? = some (.int .i64 ((m : Int) + 1)) := hk.old 12 (by kernel_rfl) rfl
          have hK := hK _ X hS (Reg.Is.of_val rfl) (fun _ _ _ h => h)
          clear hk
          go_simp
          exact hK
        refine Reg.EachV.guarded 12 100 true rfl (by kernel_rfl) (by kernel_rfl) rfl (fun T X hS hk K hK => ?_) ?_
        · skip
          have g9 : T[9]? = some (.int .i64 (m : Nat)) := hk.old 9 (by kernel_rfl) rfl
          have hK := hK _ X hS (Reg.Is.of_val rfl) (fun _ _ _ h => h)
          clear hk
          go_simp
          exact hK
        refine Reg.EachV.guarded 12 100 true rfl (by kernel_rfl) (by kernel_rfl) rfl (fun T X hS hk K hK => ?_) ?_
        · skip
          have g102 : T[102]? = some (.int .i64 (m : Nat)) := hk.val 14 102 (by kernel_rfl) (by kernel_rfl) rfl
          have hK := hK _ X hS (Reg.Is.of_val rfl) (fun _ _ _ h => h)
          clear hk
          go_simp
          exact hK
        refine Reg.EachV.guarded 12 100 true rfl (by kernel_rfl) (by kernel_rfl) rfl (fun T X hS hk K hK => ?_) ?_
        · skip
          have g101 : T[101]? = some (.int .i64 ((m : Int) + 1)) := hk.val 13 101 (by kernel_rfl) (by kernel_rfl) rfl
          have g103 : T[103]? = some (.int .i64 ((m : Int) + 1)) := hk.val 15 103 (by kernel_rfl) (by kernel_rfl) rfl
          have hK := hK _ X hS (Reg.Is.of_val rfl) (fun _ _ _ h => h)
          clear hk
          go_simp
          exact hK
        refine Reg.EachV.plain rfl (fun T X hS hk K hK => ?_) ?_
        · skip
          have g100 : T[100]? = some (.bool true) := hk.val 12 100 (by kernel_rfl) (by kernel_rfl) rfl
          have g104 : T[104]? = some (.bool true) := hk.val 16 104 (by kernel_rfl) (by kernel_rfl) rfl
          have hK := hK _ X hS (Reg.Is.of_val rfl) (fun _ _ _ h => h)
          clear hk
          go_simp
          exact hK
        refine Reg.EachV.plain rfl (fun T X hS hk K hK => ?_) ?_
        · skip
          have g105 : T[105]? = some (.bool true) := hk.val 17 105 (by kernel_rfl) (by kernel_rfl) rfl
          have hK := hK _ X hS (Reg.Is.of_val rfl) (fun _ _ _ h => h)
          clear hk
          go_simp
          exact hK
        refine Reg.EachV.guarded 18 106 true rfl (by kernel_rfl) (by kernel_rfl) rfl (fun T X hS hk K hK => ?_) ?_
        · skip
          have g16 : T[16]? = some (.pointer (some ⟨w5.heap.size, 0, none⟩)) := hk.old 16 (by kernel_rfl) rfl
          obtain ⟨⟨y0, y1, y2, y3⟩, _, _⟩ := cells4 hS.2.2.2
          have hK := hK _ X hS (Reg.Is.of_val rfl) (fun _ _ _ h => h)
          clear hk
          go_simp
          exact hK
        refine Reg.EachV.guarded 18 106 true rfl (by kernel_rfl) (by kernel_rfl) rfl (fun T X hS hk K hK => ?_) ?_
        · skip
          have g8 : T[8]? = some (.pointer (some ⟨w1.heap.size, 0, none⟩)) := hk.old 8 (by kernel_rfl) rfl
          obtain ⟨⟨y0, y1, y2, y3⟩, _, _⟩ := cells4 hS.2.1
          have hK := hK _ X hS (Reg.Is.of_val rfl) (fun _ _ _ h => h)
          clear hk
          go_simp
          exact hK
        refine Reg.EachV.guarded 18 106 true rfl (by kernel_rfl) (by kernel_rfl) rfl (fun T X hS hk K hK => ?_) ?_
        · skip
          have g107 : T[107]? = some (.agg #[.int .u64 (sw q 0 : Nat), .int .u64 (sw q 1 : Nat), .int .u64 (sw q 2 : Nat), .int .u64 (sw q 3 : Nat)]) := hk.val 19 107 (by kernel_rfl) (by kernel_rfl) rfl
          have g108 : T[108]? = some (.agg #[.int .u64 (sw q 0 : Nat), .int .u64 (sw q 1 : Nat), .int .u64 (sw q 2 : Nat), .int .u64 (sw q 3 : Nat)]) := hk.val 20 108 (by kernel_rfl) (by kernel_rfl) rfl
          have q1 := EQ2.out
          have hK := hK _ X hS (Reg.Is.of_val rfl) (fun _ _ _ h => h)
          clear hk
          go_simp
          exact hK
        refine Reg.EachV.plain rfl (fun T X hS hk K hK => ?_) ?_
        · skip
          have g106 : T[106]? = some (.bool true) := hk.val 18 106 (by kernel_rfl) (by kernel_rfl) rfl
          have g109 : T[109]? = some (.bool true) := hk.val 21 109 (by kernel_rfl) (by kernel_rfl) rfl
          have hK := hK _ X hS (Reg.Is.of_val rfl) (fun _ _ _ h => h)
          clear hk
          go_simp
          exact hK
        refine Reg.EachV.plain rfl (fun T X hS hk K hK => ?_) ?_
        · skip
          have g110 : T[110]? = some (.bool true) := hk.val 22 110 (by kernel_rfl) (by kernel_rfl) rfl
          have hK := hK _ X hS (Reg.Is.of_val rfl) (fun _ _ _ h => h)
          clear hk
          go_simp
          exact hK
        refine Reg.EachV.guarded 23 111 true rfl (by kernel_rfl) (by kernel_rfl) rfl (fun T X hS hk K hK => ?_) ?_
        · skip
          have g17 : T[17]? = some (.int .i64 (m : Nat)) := hk.old 17 (by kernel_rfl) rfl
          have hK := hK _ X hS (Reg.Is.of_val rfl) (fun _ _ _ h => h)
          clear hk
          go_simp
          exact hK
        refine Reg.EachV.guarded 23 111 true rfl (by kernel_rfl) (by kernel_rfl) rfl (fun T X hS hk K hK => ?_) ?_
        · skip
          have g9 : T[9]? = some (.int .i64 (m : Nat)) := hk.old 9 (by kernel_rfl) rfl
          have hK := hK _ X hS (Reg.Is.of_val rfl) (fun _ _ _ h => h)
          clear hk
          go_simp
          exact hK
        refine Reg.EachV.guarded 23 111 true rfl (by kernel_rfl) (by kernel_rfl) rfl (fun T X hS hk K hK => ?_) ?_
        · skip
          have g112 : T[112]? = some (.int .i64 (m : Nat)) := hk.val 24 112 (by kernel_rfl) (by kernel_rfl) rfl
          have g113 : T[113]? = some (.int .i64 (m : Nat)) := hk.val 25 113 (by kernel_rfl) (by kernel_rfl) rfl
          have hK := hK _ X hS (Reg.Is.of_val rfl) (fun _ _ _ h => h)
          clear hk
          go_simp
          exact hK
        refine Reg.EachV.plain rfl (fun T X hS hk K hK => ?_) ?_
        · skip
          have g111 : T[111]? = some (.bool true) := hk.val 23 111 (by kernel_rfl) (by kernel_rfl) rfl
          have g114 : T[114]? = some (.bool true) := hk.val 26 114 (by kernel_rfl) (by kernel_rfl) rfl
          have hK := hK _ X hS (Reg.Is.of_val rfl) (fun _ _ _ h => h)
          clear hk
          go_simp
          exact hK
        refine Reg.EachV.plain rfl (fun T X hS hk K hK => ?_) ?_
        · skip
          have g115 : T[115]? = some (.bool true) := hk.val 27 115 (by kernel_rfl) (by kernel_rfl) rfl
          have hK := hK _ X hS (Reg.Is.of_val rfl) (fun _ _ _ h => h)
          clear hk
          go_simp
          exact hK
        refine Reg.EachV.guarded 28 116 true rfl (by kernel_rfl) (by kernel_rfl) rfl (fun T X hS hk K hK => ?_) ?_
        · skip
          clear hk
          go_simp
          refine ((HAW _).out).mono ?_
          rintro e w1 ⟨rfl, hb⟩
          exact hK _ _ (⟨below_thn hS.1 (Nat.le_refl _) hb, (hb.block _ (lt_blkB hS.2.1)).trans hS.2.1, (hb.block _ (lt_blkB hS.2.2.1)).trans hS.2.2.1, (hb.block _ (lt_blkB hS.2.2.2)).trans hS.2.2.2⟩) (Reg.Is.of_val rfl) (fun _ _ _ h => h)
        refine Reg.EachV.plain rfl (fun T X hS hk K hK => ?_) ?_
        · skip
          have g116 : T[116]? = some (.bool true) := hk.val 28 116 (by kernel_rfl) (by kernel_rfl) rfl
          have g117 : T[117]? = some (.bool true) := hk.val 29 117 (by kernel_rfl) (by kernel_rfl) rfl
          have hK := hK _ X hS (Reg.Is.of_val rfl) (fun _ _ _ h => h)
          clear hk
          go_simp
          exact hK
        refine Reg.EachV.plain rfl (fun T X hS hk K hK => ?_) ?_
        · skip
          have g118 : T[118]? = some (.bool true) := hk.val 30 118 (by kernel_rfl) (by kernel_rfl) rfl
          have hK := hK _ X hS (Reg.Is.of_val rfl) (fun _ _ _ h => h)
          clear hk
          go_simp
          exact hK
        exact Reg.EachV.nil
      case rsZ =>
        intro u w1 hS hI
        have e0 : u 0 = .nilIface := (hI 0 (by decide)).val rfl
        have e1 : u 1 = .bool true := (hI 1 (by decide)).val rfl
        have e2 : u 2 = .bool true := (hI 2 (by decide)).val rfl
        have e3 : u 3 = .nilIface := (hI 3 (by decide)).val rfl
        have e4 : u 4 = .bool true := (hI 4 (by decide)).val rfl
        have e5 : u 5 = .bool true := (hI 5 (by decide)).val rfl
        have e6 : u 6 = .bool true := (hI 6 (by decide)).val rfl
        have e7 : u 7 = .agg #[.int .u64 (sw (notP q) 0 : Nat), .int .u64 (sw (notP q) 1 : Nat), .int .u64 (sw (notP q) 2 : Nat), .int .u64 (sw (notP q) 3 : Nat)] := (hI 7 (by decide)).val rfl
        have e8 : u 8 = .agg #[.int .u64 (sw q 0 : Nat), .int .u64 (sw q 1 : Nat), .int .u64 (sw q 2 : Nat), .int .u64 (sw q 3 : Nat)] := (hI 8 (by decide)).val rfl
        have e9 : u 9 = .agg #[.int .u64 (sw (notP q) 0 : Nat), .int .u64 (sw (notP q) 1 : Nat), .int .u64 (sw (notP q) 2 : Nat), .int .u64 (sw (notP q) 3 : Nat)] := (hI 9 (by decide)).val rfl
        have e10 : u 10 = .bool true := (hI 10 (by decide)).val rfl
        have e11 : u 11 = .bool true := (hI 11 (by decide)).val rfl
        have e12 : u 12 = .bool true := (hI 12 (by decide)).val rfl
        have e13 : u 13 = .int .i64 ((m : Int) + 1) := (hI 13 (by decide)).val rfl
        have e14 : u 14 = .int .i64 (m : Nat) := (hI 14 (by decide)).val rfl
        have e15 : u 15 = .int .i64 ((m : Int) + 1) := (hI 15 (by decide)).val rfl
        have e16 : u 16 = .bool true := (hI 16 (by decide)).val rfl
        have e17 : u 17 = .bool true := (hI 17 (by decide)).val rfl
        have e18 : u 18 = .bool true := (hI 18 (by decide)).val rfl
        have e19 : u 19 = .agg #[.int .u64 (sw q 0 : Nat), .int .u64 (sw q 1 : Nat), .int .u64 (sw q 2 : Nat), .int .u64 (sw q 3 : Nat)] := (hI 19 (by decide)).val rfl
        have e20 : u 20 = .agg #[.int .u64 (sw q 0 : Nat), .int .u64 (sw q 1 : Nat), .int .u64 (sw q 2 : Nat), .int .u64 (sw q 3 : Nat)] := (hI 20 (by decide)).val rfl
        have e21 : u 21 = .bool true := (hI 21 (by decide)).val rfl
        have e22 : u 22 = .bool true := (hI 22 (by decide)).val rfl
        have e23 : u 23 = .bool true := (hI 23 (by decide)).val rfl
        have e24 : u 24 = .int .i64 (m : Nat) := (hI 24 (by decide)).val rfl
        have e25 : u 25 = .int .i64 (m : Nat) := (hI 25 (by decide)).val rfl
        have e26 : u 26 = .bool true := (hI 26 (by decide)).val rfl
        have e27 : u 27 = .bool true := (hI 27 (by decide)).val rfl
        have e28 : u 28 = .bool true := (hI 28 (by decide)).val rfl
        have e29 : u 29 = .bool true := (hI 29 (by decide)).val rfl
        have e30 : u 30 = .bool true := (hI 30 (by decide)).val rfl
        have e31 : u 31 = .bool true := (hI 31 (by decide)).val rfl
        clear hI
        simp only [Reg.putAll, Act.put, List.setIfInBounds_toArray, List.set_cons_succ, List.set_cons_zero, Nat.zero_add, Nat.reduceAdd, e0, e1, e2, e3, e4, e5, e6, e7, e8, e9, e10, e11, e12, e13, e14, e15, e16, e17, e18, e19, e20, e21, e22, e23, e24, e25, e26, e27, e28, e29, e30, e31]
        clear e0 e1 e2 e3 e4 e5 e6 e7 e8 e9 e10 e11 e12 e13 e14 e15 e16 e17 e18 e19 e20 e21 e22 e23 e24 e25 e26 e27 e28 e29 e30 e31
        have HBF := Lib.hid hS.1
        clear hS
        go_wp2
        go_ret
        exact ⟨rfl, HBF.out⟩
set_option maxRecDepth 100000 in
set_option maxHeartbeats 16000000 in
theorem turned_glob (cf : ByteArray → (Nat → Bool) × Bool) (hcf : ClassOk cf) (e : Nat → Addr) (x o cap : Nat) (a1 : Option Addr) (cap1 : Nat) (l r : List Int) (hlen : l.length + r.length ≤ 4194304) (w : World) (hsn : Snt w e)
    (hs : Sl w (.slice (some ⟨x, o, none⟩) l.length cap) l) (hr : Sl w (.slice a1 r.length cap1) r) (hnil : a1 = none → r.length = 0 ∧ cap1 = 0) (hl0 : 0 < l.length) (hcl : l.length ≤ cap) (hc0 : w.cell? ⟨x, o, none⟩ = some (.int .u8 (l.getD 0 0))) (h94 : ¬ l.getD 0 0 = 94) (h33 : ¬ l.getD 0 0 = 33) :
    Calls Tryd.prog 5 #[.slice (some ⟨x, o, none⟩) l.length cap, .slice a1 r.length cap1, .bool true] w fun x w' => x = .returned (.bool true) ∧ Below w.heap.size w w' := by
  obtain ⟨i0, hi, hz0, hz1, hz2⟩ := info_parts byte_row
  have HS := Lib.hid hs
  have HRM := Lib.hid hr
  have HN := Lib.hid hsn
  have HCF := Lib.hid hcf
  have HNIL := Lib.hid hnil
  have hyl := hs.1
  have hyr := hr.1
  have hat : atB (ofBys l) 0 = l.getD 0 0 := by unfold atB; rw [bys_ofBys hs.1]
  have HP0 := Lib.hid (brkR_plain cf (ofBys l) (decide ((2 : Int) = 2)) (by rw [hat]; exact h94) (by rw [hat]; exact h33))
  have HP1 := Lib.hid (brkR_hat cf l (decide ((2 : Int) = 2)) hs.1)
  have HP2 := fun (q : Nat → Bool) (m : Nat) => Lib.hid (brkR_more cf l r (decide ((2 : Int) = 2)) hs.1 hr.1 (by rw [hat]; exact h94) (by rw [hat]; exact h33) (q := q) (m := m))
  have HCO := fun (c p : Nat) => Lib.hid (brkL_code (cf := cf) (s := ofBys l) (g := decide ((2 : Int) = 2)) ((ofBys l).size + 1) 0 true noP c p (Nat.zero_le _) (Nat.sub_le _ _))
  have HAW : ∀ w, Hid (Calls Tryd.prog 13 #[] w fun e w' => e = .returned (.bool true) ∧ Below w.heap.size w w') := fun w => Lib.hid (awake5_any w)
  have hlI : ((l.length : Nat) : Int) ≠ 0 := by omega
  have hlb : ((l.length : Int) == 0) = false := beq_eq_false_iff_ne.2 hlI
  have hlp : (0 : Int) < (l.length : Int) := by omega
  clear hs hr hsn hcf hnil hat
  generalize l.getD 0 0 = c0 at *
  generalize hRg : brkL cf (ofBys l) (decide ((2 : Int) = 2)) ((ofBys l).size + 1) 0 true noP = R at *
  clear hRg
  have HB0 := Lib.hid (bkt0 cf HCF.out e _ l 2 (by omega) w HN.out HS.out (by decide) HP0.out)
  go_enter Tryd.func5, Tryd.ntmps5
  go_wp2_with fail
  refine HB0.out.mono ?_
  cases R with
  | bad c p =>
    obtain ⟨hc, hpp⟩ := (HCO c p).out rfl
    rw [ofBys_size] at hpp
    rintro e' w1 ⟨v1, rfl, her, hb1⟩
    obtain ⟨kk, rfl⟩ := her.iface
    have HER := Lib.hid her
    have HB1 := Lib.hid hb1
    clear her hb1
    unfold SV
    go_wp2_with fail
    obtain ⟨wp, hV⟩ : ∃ V, V = w1.alloc (.cells #[.int .u64 (sw noP 0 : Nat), .int .u64 (sw noP 1 : Nat), .int .u64 (sw noP 2 : Nat), .int .u64 (sw noP 3 : Nat)] 24) := ⟨_, rfl⟩
    rw [← hV]
    have HBp : Hid (Below w1.heap.size w1 wp) := Lib.hid (by rw [hV]; exact (Below.refl _ _).alloc (Nat.le_refl _) _)
    have HGp : Hid (wp.heap[w1.heap.size]? = some (.cells #[.int .u64 (sw noP 0 : Nat), .int .u64 (sw noP 1 : Nat), .int .u64 (sw noP 2 : Nat), .int .u64 (sw noP 3 : Nat)] 24)) := Lib.hid (by rw [hV]; exact alloc_last _ _)
    have hzp : wp.heap.size = w1.heap.size + 1 := by rw [hV]; simp
    clear hV
    have HBwp := Lib.hid (below_thn HB1.out (Nat.le_refl _) HBp.out)
    have HSp := Lib.hid (Sl.below (Sl.below HS.out HB1.out) HBp.out)
    have hcv : (convert 28 28 (.slice (some ⟨w1.heap.size + 1, 0, none⟩) 1 1)).run Tryd.prog (wp.alloc (.cells #[.int .u8 94] 5)) = .ok (.slice (some ⟨w1.heap.size + 1, 0, none⟩) 1 1) (wp.alloc (.cells #[.int .u8 94] 5 (1, 2))) := by
      have := Lib.run_convert_bytes_const (P := Tryd.prog) wp 28 5 #[.int .u8 94] 1 1 Tryd.underlying28 Tryd.underlying5
      rw [hzp] at this
      exact this
    obtain ⟨wq, hQ⟩ : ∃ V, V = wp.alloc (.cells #[.int .u8 94] 5 (1, 2)) := ⟨_, rfl⟩
    rw [← hQ] at hcv
    have HBq : Hid (Below wp.heap.size wp wq) := Lib.hid (by rw [hQ]; exact (Below.refl _ _).alloc (Nat.le_refl _) _)
    have hcq : wq.cell? ⟨w1.heap.size + 1, 0, none⟩ = some (.int .u8 94) := by rw [hQ, ← hzp]; have e := alloc_last wp (.cells #[.int .u8 94] 5 (1, 2)); simp only [World.cell?, e]; rfl
    have hzq : wp.heap.size ≤ wq.heap.size := HBq.out.size
    clear hQ
    have HCQ := Lib.hid hcq
    clear hcq
    have HNW := Lib.hid (newsB (Sl.below HSp.out HBq.out))
    go_wp2_with (at_builtin; refine wpList_append_grows _ rfl (.tmp 45) (.tmp 46) 28 rfl 5 i0 (.int .u8 0) 1 1 Tryd.underlying28 hi hz0 hz1 hz2 rfl (by decide) (some ⟨w1.heap.size + 1, 0, none⟩) 1 1 [.int .u8 94] rfl (fun h => by cases h) rfl ?p0 ⟨x, o, none⟩ l.length cap (l.map (Value.int .u8)) rfl ?p1 HNW.out.2 (oneB l) ?p2 ?p3 ?p4 ?_)
    case p0 =>
      intro b hb j u hj
      obtain rfl := Option.some.inj hb
      match j, hj with
      | 0, hj => simp at hj; subst hj; exact HCQ.out
    case p1 => simp
    case p2 => omega
    case p3 => unfold maxLen; omega
    case p4 => omega
    intro va wa howna hgra
    have HBa : Hid (Below wp.heap.size wp wa) := Lib.hid (HBq.out.grown hgra hzq (fun k hk => by cases hk))
    have HSa := Lib.hid (slOwnedM (L := 94 :: l) howna (fun i => by cases i with | zero => simp | succ i => simpa using hyl i) (by simp; omega))
    have HBwa := Lib.hid (below_thn HBwp.out (Nat.le_refl _) HBa.out)
    clear howna hgra HNW HCQ hcv hzq
    have HNa := Lib.hid (HN.out.below HBwa.out)
    have HB2 := Lib.hid (bkt0 cf HCF.out e _ (94 :: l) 2 (by simp; omega) wa HNa.out HSa.out (by decide) HP1.out)
    have HERa := Lib.hid ((HER.out.below HBp.out).below HBa.out)
    go_wp2_with fail
    refine HB2.out.mono ?_
    rintro e' w2 ⟨v2, rfl, her2, hb2⟩
    obtain ⟨kk2, rfl⟩ := her2.iface
    have HER2 := Lib.hid her2
    have HERb := Lib.hid (HERa.out.below hb2)
    have HBw2 := Lib.hid (below_thn HBwa.out (Nat.le_refl _) hb2)
    clear her2 hb2
    unfold SV
    have HT1 : Hid (∀ W', Below w2.heap.size w2 W' → Calls Tryd.prog 16 #[.iface 87 (.pointer (some ⟨kk, 0, none⟩))] W' fun x w' => x = .returned (.agg #[.int .i64 c, .int .i64 (0 + p : Nat), .int .i64 2]) ∧ Below W'.heap.size W' w') := Lib.hid fun W' hW => tellS ((HN.out.below HBw2.out).below hW) (HERb.out.below hW) (by omega) (by omega)
    have HT2 : Hid (∀ W', Below w2.heap.size w2 W' → Calls Tryd.prog 16 #[.iface 87 (.pointer (some ⟨kk2, 0, none⟩))] W' fun x w' => x = .returned (.agg #[.int .i64 c, .int .i64 (0 + (p + 1) : Nat), .int .i64 2]) ∧ Below W'.heap.size W' w') := Lib.hid fun W' hW => tellS ((HN.out.below HBw2.out).below hW) (HER2.out.below hW) (by omega) (by omega)
    go_wp2_with fail
    refine (HT1.out _ ((Below.refl _ _).alloc (Nat.le_refl _) _)).mono ?_
    rintro e' w3 ⟨rfl, hb3⟩
    have HB3 := Lib.hid (below_thn (((Below.refl w2.heap.size w2).alloc (Nat.le_refl _) (.cells #[.int .u64 (sw noP 0 : Nat), .int .u64 (sw noP 1 : Nat), .int .u64 (sw noP 2 : Nat), .int .u64 (sw noP 3 : Nat)] 24))) (Nat.le_refl _) hb3)
    clear hb3
    go_wp2_with fail
    refine (HT2.out _ HB3.out).mono ?_
    rintro e' w4 ⟨rfl, hb4⟩
    have HB4 := Lib.hid (below_thn HBw2.out (Nat.le_refl _) (below_thn HB3.out (Nat.le_refl _) hb4))
    clear hb4
    have hw : IntKind.i64.wrap ((p : Int) + 1) = (p : Int) + 1 := by rw [IntKind.wrap_i64]; omega
    go_wp2_with fail
    refine (HAW _).out.mono ?_
    rintro e' w5 ⟨rfl, hb5⟩
    have HB5 := Lib.hid (below_thn ((HB4.out.alloc HB4.out.size (.cells #[.int .i64 c, .int .i64 p, .int .i64 2] 34)).alloc (by have := HB4.out.size; simp; omega) (.cells #[.int .i64 c, .int .i64 ((p : Int) + 1), .int .i64 2] 34)) (Nat.le_refl _) hb5)
    clear hb5
    go_wp2
    go_ret
    exact ⟨rfl, HB5.out⟩
  | ok q m =>
    have hmore := (HP2 q m).out rfl
    have hml := hmore.2
    have HMO := Lib.hid hmore.1
    clear hmore
    rintro e' w1 ⟨rfl, hb1⟩
    have HB1 := Lib.hid hb1
    clear hb1
    unfold SV
    go_wp2_with fail
    obtain ⟨wp, hV⟩ : ∃ V, V = w1.alloc (.cells #[.int .u64 (sw q 0 : Nat), .int .u64 (sw q 1 : Nat), .int .u64 (sw q 2 : Nat), .int .u64 (sw q 3 : Nat)] 24) := ⟨_, rfl⟩
    rw [← hV]
    have HBp : Hid (Below w1.heap.size w1 wp) := Lib.hid (by rw [hV]; exact (Below.refl _ _).alloc (Nat.le_refl _) _)
    have HGp : Hid (wp.heap[w1.heap.size]? = some (.cells #[.int .u64 (sw q 0 : Nat), .int .u64 (sw q 1 : Nat), .int .u64 (sw q 2 : Nat), .int .u64 (sw q 3 : Nat)] 24)) := Lib.hid (by rw [hV]; exact alloc_last _ _)
    have hzp : wp.heap.size = w1.heap.size + 1 := by rw [hV]; simp
    clear hV
    have HBwp := Lib.hid (below_thn HB1.out (Nat.le_refl _) HBp.out)
    have HSp := Lib.hid (Sl.below (Sl.below HS.out HB1.out) HBp.out)
    have hcv : (convert 28 28 (.slice (some ⟨w1.heap.size + 1, 0, none⟩) 1 1)).run Tryd.prog (wp.alloc (.cells #[.int .u8 94] 5)) = .ok (.slice (some ⟨w1.heap.size + 1, 0, none⟩) 1 1) (wp.alloc (.cells #[.int .u8 94] 5 (1, 2))) := by
      have := Lib.run_convert_bytes_const (P := Tryd.prog) wp 28 5 #[.int .u8 94] 1 1 Tryd.underlying28 Tryd.underlying5
      rw [hzp] at this
      exact this
    obtain ⟨wq, hQ⟩ : ∃ V, V = wp.alloc (.cells #[.int .u8 94] 5 (1, 2)) := ⟨_, rfl⟩
    rw [← hQ] at hcv
    have HBq : Hid (Below wp.heap.size wp wq) := Lib.hid (by rw [hQ]; exact (Below.refl _ _).alloc (Nat.le_refl _) _)
    have hcq : wq.cell? ⟨w1.heap.size + 1, 0, none⟩ = some (.int .u8 94) := by rw [hQ, ← hzp]; have e := alloc_last wp (.cells #[.int .u8 94] 5 (1, 2)); simp only [World.cell?, e]; rfl
    have hzq : wp.heap.size ≤ wq.heap.size := HBq.out.size
    clear hQ
    have HCQ := Lib.hid hcq
    clear hcq
    have HNW := Lib.hid (newsB (Sl.below HSp.out HBq.out))
    go_wp2_with (at_builtin; refine wpList_append_grows _ rfl (.tmp 45) (.tmp 46) 28 rfl 5 i0 (.int .u8 0) 1 1 Tryd.underlying28 hi hz0 hz1 hz2 rfl (by decide) (some ⟨w1.heap.size + 1, 0, none⟩) 1 1 [.int .u8 94] rfl (fun h => by cases h) rfl ?p0 ⟨x, o, none⟩ l.length cap (l.map (Value.int .u8)) rfl ?p1 HNW.out.2 (oneB l) ?p2 ?p3 ?p4 ?_)
    case p0 =>
      intro b hb j u hj
      obtain rfl := Option.some.inj hb
      match j, hj with
      | 0, hj => simp at hj; subst hj; exact HCQ.out
    case p1 => simp
    case p2 => omega
    case p3 => unfold maxLen; omega
    case p4 => omega
    intro va wa howna hgra
    have HBa : Hid (Below wp.heap.size wp wa) := Lib.hid (HBq.out.grown hgra hzq (fun k hk => by cases hk))
    have HSa := Lib.hid (slOwnedM (L := 94 :: l) howna (fun i => by cases i with | zero => simp | succ i => simpa using hyl i) (by simp; omega))
    have HBwa := Lib.hid (below_thn HBwp.out (Nat.le_refl _) HBa.out)
    clear howna hgra HNW HCQ hcv hzq
    have HNa := Lib.hid (HN.out.below HBwa.out)
    have HB2 := Lib.hid (bkt0 cf HCF.out e _ (94 :: l) 2 (by simp; omega) wa HNa.out HSa.out (by decide) HP1.out)
    have HSpa := Lib.hid (Sl.below HSp.out HBa.out)
    have HGa := Lib.hid ((HBa.out.block _ (lt_blkB HGp.out)).trans HGp.out)
    go_wp2_with fail
    refine HB2.out.mono ?_
    rintro e' w2 ⟨rfl, hb2⟩
    have HSp2 := Lib.hid (Sl.below HSpa.out hb2)
    have HG2 := Lib.hid ((hb2.block _ (lt_blkB HGa.out)).trans HGa.out)
    have HBw2 := Lib.hid (below_thn HBwa.out (Nat.le_refl _) hb2)
    clear hb2
    unfold SV
    obtain ⟨wr, hV⟩ : ∃ V, V = w2.alloc (.cells #[.int .u64 (sw (notP q) 0 : Nat), .int .u64 (sw (notP q) 1 : Nat), .int .u64 (sw (notP q) 2 : Nat), .int .u64 (sw (notP q) 3 : Nat)] 24) := ⟨_, rfl⟩
    have HBr : Hid (Below w2.heap.size w2 wr) := Lib.hid (by rw [hV]; exact (Below.refl _ _).alloc (Nat.le_refl _) _)
    have HHr : Hid (wr.heap[w2.heap.size]? = some (.cells #[.int .u64 (sw (notP q) 0 : Nat), .int .u64 (sw (notP q) 1 : Nat), .int .u64 (sw (notP q) 2 : Nat), .int .u64 (sw (notP q) 3 : Nat)] 24)) := Lib.hid (by rw [hV]; exact alloc_last _ _)
    have hzr : wr.heap.size = w2.heap.size + 1 := by rw [hV]; simp
    have HBwr := Lib.hid (below_thn HBw2.out (Nat.le_refl _) HBr.out)
    have HSr := Lib.hid (Sl.below HSp2.out HBr.out)
    have HGr := Lib.hid ((HBr.out.block _ (lt_blkB HG2.out)).trans HG2.out)
    have HRr := Lib.hid (Sl.below HRM.out HBwr.out)
    have HOL : Hid ((wr.alloc (.cells #[] 5)).ownsRow wr.heap.size 5 1 (.slice (some ⟨w2.heap.size + 1, 0, none⟩) 0 0) 0 []) := Lib.hid (by rw [← hzr]; exact World.ownsRow_made wr #[] 0 (Nat.le_refl _) (by decide) rfl)
    have HBe : Hid (Below wr.heap.size wr (wr.alloc (.cells #[] 5))) := Lib.hid ((Below.refl _ _).alloc (Nat.le_refl _) _)
    have HNT := Lib.hid (newsB (Sl.below (SlTake HSr.out m hml) HBe.out))
    subst hV
    go_wp2_with (at_builtin; refine wpList_append_own _ rfl (.tmp 76) (.tmp 79) 28 rfl (w2.alloc (.cells #[.int .u64 (sw (notP q) 0 : Nat), .int .u64 (sw (notP q) 1 : Nat), .int .u64 (sw (notP q) 2 : Nat), .int .u64 (sw (notP q) 3 : Nat)] 24)).heap.size 5 i0 (.int .u8 0) 1 1 Tryd.underlying28 hi hz0 hz1 hz2 rfl (by decide) _ 0 [] rfl HOL.out ⟨x, o, none⟩ m cap ((l.take m).map (Value.int .u8)) rfl ?q0 HNT.out.2 (oneB _) ?q3 ?q4 (by simp) ?_)
    case q0 => simp; omega
    case q3 => unfold maxLen; omega
    case q4 => omega
    intro vs ws hown hgr _
    have HBs : Hid (Below (w2.alloc (.cells #[.int .u64 (sw (notP q) 0 : Nat), .int .u64 (sw (notP q) 1 : Nat), .int .u64 (sw (notP q) 2 : Nat), .int .u64 (sw (notP q) 3 : Nat)] 24)).heap.size (w2.alloc (.cells #[.int .u64 (sw (notP q) 0 : Nat), .int .u64 (sw (notP q) 1 : Nat), .int .u64 (sw (notP q) 2 : Nat), .int .u64 (sw (notP q) 3 : Nat)] 24)) ws) := Lib.hid (HBe.out.grown hgr (by simp) (fun k hk => (HOL.out.lt k hk).1))
    have HOs : Hid (ws.ownsRow (w2.alloc (.cells #[.int .u64 (sw (notP q) 0 : Nat), .int .u64 (sw (notP q) 1 : Nat), .int .u64 (sw (notP q) 2 : Nat), .int .u64 (sw (notP q) 3 : Nat)] 24)).heap.size 5 1 vs (0 + m) ((l.take m).map (Value.int .u8))) := Lib.hid (by simpa using hown)
    clear hown hgr HNT HOL
    have HRs := Lib.hid (Sl.below HRr.out HBs.out)
    have hzs := HBs.out.size
    have key : ∀ (vt : Value) (wt : World), wt.ownsRow (w2.alloc (.cells #[.int .u64 (sw (notP q) 0 : Nat), .int .u64 (sw (notP q) 1 : Nat), .int .u64 (sw (notP q) 2 : Nat), .int .u64 (sw (notP q) 3 : Nat)] 24)).heap.size 5 1 vt (0 + m + r.length) ((l.take m).map (Value.int .u8) ++ r.map (Value.int .u8)) → Sl wt vt (l.take m ++ r) := fun vt wt h => by
      rw [← List.map_append] at h
      exact slOwnedM h (byt_app (byt_takeT hyl m) hyr) (by rw [List.length_append, List.length_take]; omega)
    have KEY := Lib.hid key
    clear key
    cases a1 with
    | none =>
      obtain ⟨hr0, rfl⟩ := HNIL.out rfl
      have hrl : r = [] := List.length_eq_zero_iff.1 hr0
      subst hrl
      go_wp2_with (at_builtin; refine wpList_append_own_none rfl (.tmp 80) (.tmp 81) 28 rfl (w2.alloc (.cells #[.int .u64 (sw (notP q) 0 : Nat), .int .u64 (sw (notP q) 1 : Nat), .int .u64 (sw (notP q) 2 : Nat), .int .u64 (sw (notP q) 3 : Nat)] 24)).heap.size 5 i0 1 Tryd.underlying28 hi vs (0 + m) ((l.take m).map (Value.int .u8)) rfl HOs.out rfl ?_)
      have HBt := HBs
      have HSt : Hid (Sl ws vs (l.take m ++ [])) := Lib.hid (KEY.out vs ws (by have := HOs.out; rw [List.map_nil, List.append_nil]; exact this))
      have HBwt := Lib.hid (below_thn HBwr.out (Nat.le_refl _) HBt.out)
      have HB3 := Lib.hid (bkt0 cf HCF.out e _ (l.take m ++ []) 2 (by rw [List.length_append, List.length_take]; omega) ws (HN.out.below HBwt.out) HSt.out (by decide) HMO.out)
      have HGt := Lib.hid ((HBt.out.block _ (lt_blkB HGr.out)).trans HGr.out)
      have HHt := Lib.hid ((HBt.out.block _ (lt_blkB HHr.out)).trans HHr.out)
      go_wp2_with fail
      refine HB3.out.mono ?_
      rintro e' w5 ⟨rfl, hb5⟩
      have HG5 := Lib.hid ((hb5.block _ (lt_blkB HGt.out)).trans HGt.out)
      have HH5 := Lib.hid ((hb5.block _ (lt_blkB HHt.out)).trans HHt.out)
      have HBw5 := Lib.hid (below_thn HBwt.out (Nat.le_refl _) hb5)
      clear hb5
      unfold SV
      go_wp2_with fail
      obtain ⟨w6, hV⟩ : ∃ V, V = w5.alloc (.cells #[.int .u64 (sw q 0 : Nat), .int .u64 (sw q 1 : Nat), .int .u64 (sw q 2 : Nat), .int .u64 (sw q 3 : Nat)] 24) := ⟨_, rfl⟩
      rw [← hV]
      have HS0 : Hid (Below w.heap.size w w6 ∧ w6.heap[w1.heap.size]? = some (.cells #[.int .u64 (sw q 0 : Nat), .int .u64 (sw q 1 : Nat), .int .u64 (sw q 2 : Nat), .int .u64 (sw q 3 : Nat)] 24) ∧ w6.heap[w2.heap.size]? = some (.cells #[.int .u64 (sw (notP q) 0 : Nat), .int .u64 (sw (notP q) 1 : Nat), .int .u64 (sw (notP q) 2 : Nat), .int .u64 (sw (notP q) 3 : Nat)] 24) ∧ w6.heap[w5.heap.size]? = some (.cells #[.int .u64 (sw q 0 : Nat), .int .u64 (sw q 1 : Nat), .int .u64 (sw q 2 : Nat), .int .u64 (sw q 3 : Nat)] 24)) := Lib.hid (by rw [hV]; exact ⟨HBw5.out.alloc HBw5.out.size _, (Below.heap_alloc _ _ _ (lt_blkB HG5.out)).trans HG5.out, (Below.heap_alloc _ _ _ (lt_blkB HH5.out)).trans HH5.out, alloc_last _ _⟩)
      clear hV
      have HNo : ∀ w, Hid (Calls Tryd.prog 17 #[.agg #[.int .u64 (sw q 0 : Nat), .int .u64 (sw q 1 : Nat), .int .u64 (sw q 2 : Nat), .int .u64 (sw q 3 : Nat)]] w fun e w' => e = .returned (SV (notP q)) ∧ Below w.heap.size w w') := fun w => Lib.hid (not_any q w)
      have hw : IntKind.i64.wrap ((m : Int) + 1) = (m : Int) + 1 := by rw [IntKind.wrap_i64]; omega
      have EQ1 := Lib.hid (eq_yesM (notP q) (notP q) (fun _ _ => rfl))
      have EQ2 := Lib.hid (eq_yesM q q (fun _ _ => rfl))
      refine Reg.wp_region_vals (fun X => Below w.heap.size w X ∧ X.heap[w1.heap.size]? = some (.cells #[.int .u64 (sw q 0 : Nat), .int .u64 (sw q 1 : Nat), .int .u64 (sw q 2 : Nat), .int .u64 (sw q 3 : Nat)] 24) ∧ X.heap[w2.heap.size]? = some (.cells #[.int .u64 (sw (notP q) 0 : Nat), .int .u64 (sw (notP q) 1 : Nat), .int .u64 (sw (notP q) 2 : Nat), .int .u64 (sw (notP q) 3 : Nat)] 24) ∧ X.heap[w5.heap.size]? = some (.cells #[.int .u64 (sw q 0 : Nat), .int .u64 (sw q 1 : Nat), .int .u64 (sw q 2 : Nat), .int .u64 (sw q 3 : Nat)] 24)) (fun j => ([some (.nilIface), some (.bool true), some (.bool true), some (.nilIface), some (.bool true), some (.bool true), some (.bool true), some (.agg #[.int .u64 (sw (notP q) 0 : Nat), .int .u64 (sw (notP q) 1 : Nat), .int .u64 (sw (notP q) 2 : Nat), .int .u64 (sw (notP q) 3 : Nat)]), some (.agg #[.int .u64 (sw q 0 : Nat), .int .u64 (sw q 1 : Nat), .int .u64 (sw q 2 : Nat), .int .u64 (sw q 3 : Nat)]), some (.agg #[.int .u64 (sw (notP q) 0 : Nat), .int .u64 (sw (notP q) 1 : Nat), .int .u64 (sw (notP q) 2 : Nat), .int .u64 (sw (notP q) 3 : Nat)]), some (.bool true), some (.bool true), some (.bool true), some (.int .i64 ((m : Int) + 1)), some (.int .i64 (m : Nat)), some (.int .i64 ((m : Int) + 1)), some (.bool true), some (.bool true), some (.bool true), some (.agg #[.int .u64 (sw q 0 : Nat), .int .u64 (sw q 1 : Nat), .int .u64 (sw q 2 : Nat), .int .u64 (sw q 3 : Nat)]), some (.agg #[.int .u64 (sw q 0 : Nat), .int .u64 (sw q 1 : Nat), .int .u64 (sw q 2 : Nat), .int .u64 (sw q 3 : Nat)]), some (.bool true), some (.bool true), some (.bool true), some (.int .i64 (m : Nat)), some (.int .i64 (m : Nat)), some (.bool true), some (.bool true), some (.bool true), some (.bool true), some (.bool true), some (.bool true)] : List (Option Value)).getD j none) (fun _ _ _ => True) (by kernel_rfl) (by kernel_rfl) (by kernel_rfl) (by kernel_rfl) ?rs0 ?rsE ?rsZ
      case rs0 => exact ⟨HS0.out.1.drew, HS0.out.2.1, HS0.out.2.2.1, HS0.out.2.2.2⟩
      case rsE =>
        refine Reg.EachV.plain rfl (fun T X hS hk K hK => ?_) ?_
        · skip
          have g13 : T[13]? = some (.nilIface) := hk.old 13 (by kernel_rfl) rfl
          have hK := hK _ X hS (Reg.Is.of_val rfl) (fun _ _ _ h => h)
          clear hk
          go_simp
          exact hK
        refine Reg.EachV.plain rfl (fun T X hS hk K hK => ?_) ?_
        · skip
          have g88 : T[88]? = some (.nilIface) := hk.val 0 88 (by kernel_rfl) (by kernel_rfl) rfl
          have hK := hK _ X hS (Reg.Is.of_val rfl) (fun _ _ _ h => h)
          clear hk
          go_simp
          exact hK
        refine Reg.EachV.plain rfl (fun T X hS hk K hK => ?_) ?_
        · skip
          have g89 : T[89]? = some (.bool true) := hk.val 1 89 (by kernel_rfl) (by kernel_rfl) rfl
          have hK := hK _ X hS (Reg.Is.of_val rfl) (fun _ _ _ h => h)
          clear hk
          go_simp
          exact hK
        refine Reg.EachV.guarded 2 90 true rfl (by kernel_rfl) (by kernel_rfl) rfl (fun T X hS hk K hK => ?_) ?_
        · skip
          have g18 : T[18]? = some (.nilIface) := hk.old 18 (by kernel_rfl) rfl
          have hK := hK _ X hS (Reg.Is.of_val rfl) (fun _ _ _ h => h)
          clear hk
          go_simp
          exact hK
        refine Reg.EachV.guarded 2 90 true rfl (by kernel_rfl) (by kernel_rfl) rfl (fun T X hS hk K hK => ?_) ?_
        · skip
          have g91 : T[91]? = some (.nilIface) := hk.val 3 91 (by kernel_rfl) (by kernel_rfl) rfl
          have hK := hK _ X hS (Reg.Is.of_val rfl) (fun _ _ _ h => h)
          clear hk
          go_simp
          exact hK
        refine Reg.EachV.plain rfl (fun T X hS hk K hK => ?_) ?_
        · skip
          have g90 : T[90]? = some (.bool true) := hk.val 2 90 (by kernel_rfl) (by kernel_rfl) rfl
          have g92 : T[92]? = some (.bool true) := hk.val 4 92 (by kernel_rfl) (by kernel_rfl) rfl
          have hK := hK _ X hS (Reg.Is.of_val rfl) (fun _ _ _ h => h)
          clear hk
          go_simp
          exact hK
        refine Reg.EachV.plain rfl (fun T X hS hk K hK => ?_) ?_
        · skip
          have g93 : T[93]? = some (.bool true) := hk.val 5 93 (by kernel_rfl) (by kernel_rfl) rfl
          have hK := hK _ X hS (Reg.Is.of_val rfl) (fun _ _ _ h => h)
          clear hk
          go_simp
          exact hK
        refine Reg.EachV.guarded 6 94 true rfl (by kernel_rfl) (by kernel_rfl) rfl (fun T X hS hk K hK => ?_) ?_
        · skip
          have g11 : T[11]? = some (.pointer (some ⟨w2.heap.size, 0, none⟩)) := hk.old 11 (by kernel_rfl) rfl
          obtain ⟨⟨y0, y1, y2, y3⟩, _, _⟩ := cells4 hS.2.2.1
          have hK := hK _ X hS (Reg.Is.of_val rfl) (fun _ _ _ h => h)
          clear hk
          go_simp
          exact hK
        refine Reg.EachV.guarded 6 94 true rfl (by kernel_rfl) (by kernel_rfl) rfl (fun T X hS hk K hK => ?_) ?_
        · skip
          have g8 : T[8]? = some (.pointer (some ⟨w1.heap.size, 0, none⟩)) := hk.old 8 (by kernel_rfl) rfl
          obtain ⟨⟨y0, y1, y2, y3⟩, _, _⟩ := cells4 hS.2.1
          have hK := hK _ X hS (Reg.Is.of_val rfl) (fun _ _ _ h => h)
          clear hk
          go_simp
          exact hK
        refine Reg.EachV.guarded 6 94 true rfl (by kernel_rfl) (by kernel_rfl) rfl (fun T X hS hk K hK => ?_) ?_
        · skip
          have g96 : T[96]? = some (.agg #[.int .u64 (sw q 0 : Nat), .int .u64 (sw q 1 : Nat), .int .u64 (sw q 2 : Nat), .int .u64 (sw q 3 : Nat)]) := hk.val 8 96 (by kernel_rfl) (by kernel_rfl) rfl
          clear hk
          go_simp
          refine ((HNo _).out).mono ?_
          rintro e w1 ⟨rfl, hb⟩
          exact hK _ _ (⟨below_thn hS.1 (Nat.le_refl _) hb, (hb.block _ (lt_blkB hS.2.1)).trans hS.2.1, (hb.block _ (lt_blkB hS.2.2.1)).trans hS.2.2.1, (hb.block _ (lt_blkB hS.2.2.2)).trans hS.2.2.2⟩) (Reg.Is.of_val rfl) (fun _ _ _ h => h)
        refine Reg.EachV.guarded 6 94 true rfl (by kernel_rfl) (by kernel_rfl) rfl (fun T X hS hk K hK => ?_) ?_
        · skip
          have g95 : T[95]? = some (.agg #[.int .u64 (sw (notP q) 0 : Nat), .int .u64 (sw (notP q) 1 : Nat), .int .u64 (sw (notP q) 2 : Nat), .int .u64 (sw (notP q) 3 : Nat)]) := hk.val 7 95 (by kernel_rfl) (by kernel_rfl) rfl
          have g97 : T[97]? = some (.agg #[.int .u64 (sw (notP q) 0 : Nat), .int .u64 (sw (notP q) 1 : Nat), .int .u64 (sw (notP q) 2 : Nat), .int .u64 (sw (notP q) 3 : Nat)]) := hk.val 9 97 (by kernel_rfl) (by kernel_rfl) rfl
          have q1 := EQ1.out
          have hK := hK _ X hS (Reg.Is.of_val rfl) (fun _ _ _ h => h)
          clear hk
          go_simp
          exact hK
        refine Reg.EachV.plain rfl (fun T X hS hk K hK => ?_) ?_
        · skip
          have g94 : T[94]? = some (.bool true) := hk.val 6 94 (by kernel_rfl) (by kernel_rfl) rfl
          have g98 : T[98]? = some (.bool true) := hk.val 10 98 (by kernel_rfl) (by kernel_rfl) rfl
          have hK := hK _ X hS (Reg.Is.of_val rfl) (fun _ _ _ h => h)
          clear hk
          go_simp
          exact hK
        refine Reg.EachV.plain rfl (fun T X hS hk K hK => ?_) ?_
        · skip
          have g99 : T[99]? = some (.bool true) := hk.val 11 99 (by kernel_rfl) (by kernel_rfl) rfl
          have hK := hK _ X hS (Reg.Is.of_val rfl) (fun _ _ _ h => h)
          clear hk
          go_simp
          exact hK
        refine Reg.EachV.guarded 12 100 true rfl (by kernel_rfl) (by kernel_rfl) rfl (fun T X hS hk K hK => ?_) ?_
        · skip
          have g12 : T[12]? = some (.int .i64 ((m : Int) + 1)) := hk.old 12 (by kernel_rfl) rfl
          have hK := hK _ X hS (Reg.Is.of_val rfl) (fun _ _ _ h => h)
          clear hk
          go_simp
          exact hK
        refine Reg.EachV.guarded 12 100 true rfl (by kernel_rfl) (by kernel_rfl) rfl (fun T X hS hk K hK => ?_) ?_
        · skip
          have g9 : T[9]? = some (.int .i64 (m : Nat)) := hk.old 9 (by kernel_rfl) rfl
          have hK := hK _ X hS (Reg.Is.of_val rfl) (fun _ _ _ h => h)
          clear hk
          go_simp
          exact hK
        refine Reg.EachV.guarded 12 100 true rfl (by kernel_rfl) (by kernel_rfl) rfl (fun T X hS hk K hK => ?_) ?_
        · skip
          have g102 : T[102]? = some (.int .i64 (m : Nat)) := hk.val 14 102 (by kernel_rfl) (by kernel_rfl) rfl
          have hK := hK _ X hS (Reg.Is.of_val rfl) (fun _ _ _ h => h)
          clear hk
          go_simp
          exact hK
        refine Reg.EachV.guarded 12 100 true rfl (by kernel_rfl) (by kernel_rfl) rfl (fun T X hS hk K hK => ?_) ?_
        · skip
          have g101 : T[101]? = some (.int .i64 ((m : Int) + 1)) := hk.val 13 101 (by kernel_rfl) (by kernel_rfl) rfl
          have g103 : T[103]? = some (.int .i64 ((m : Int) + 1)) := hk.val 15 103 (by kernel_rfl) (by kernel_rfl) rfl
          have hK := hK _ X hS (Reg.Is.of_val rfl) (fun _ _ _ h => h)
          clear hk
          go_simp
          exact hK
        refine Reg.EachV.plain rfl (fun T X hS hk K hK => ?_) ?_
        · skip
          have g100 : T[100]? = some (.bool true) := hk.val 12 100 (by kernel_rfl) (by kernel_rfl) rfl
          have g104 : T[104]? = some (.bool true) := hk.val 16 104 (by kernel_rfl) (by kernel_rfl) rfl
          have hK := hK _ X hS (Reg.Is.of_val rfl) (fun _ _ _ h => h)
          clear hk
          go_simp
          exact hK
        refine Reg.EachV.plain rfl (fun T X hS hk K hK => ?_) ?_
        · skip
          have g105 : T[105]? = some (.bool true) := hk.val 17 105 (by kernel_rfl) (by kernel_rfl) rfl
          have hK := hK _ X hS (Reg.Is.of_val rfl) (fun _ _ _ h => h)
          clear hk
          go_simp
          exact hK
        refine Reg.EachV.guarded 18 106 true rfl (by kernel_rfl) (by kernel_rfl) rfl (fun T X hS hk K hK => ?_) ?_
        · skip
          have g16 : T[16]? = some (.pointer (some ⟨w5.heap.size, 0, none⟩)) := hk.old 16 (by kernel_rfl) rfl
          obtain ⟨⟨y0, y1, y2, y3⟩, _, _⟩ := cells4 hS.2.2.2
          have hK := hK _ X hS (Reg.Is.of_val rfl) (fun _ _ _ h => h)
          clear hk
          go_simp
          exact hK
        refine Reg.EachV.guarded 18 106 true rfl (by kernel_rfl) (by kernel_rfl) rfl (fun T X hS hk K hK => ?_) ?_
        · skip
          have g8 : T[8]? = some (.pointer (some ⟨w1.heap.size, 0, none⟩)) := hk.old 8 (by kernel_rfl) rfl
          obtain ⟨⟨y0, y1, y2, y3⟩, _, _⟩ := cells4 hS.2.1
          have hK := hK _ X hS (Reg.Is.of_val rfl) (fun _ _ _ h => h)
          clear hk
          go_simp
          exact hK
        refine Reg.EachV.guarded 18 106 true rfl (by kernel_rfl) (by kernel_rfl) rfl (fun T X hS hk K hK => ?_) ?_
        · skip
          have g107 : T[107]? = some (.agg #[.int .u64 (sw q 0 : Nat), .int .u64 (sw q 1 : Nat), .int .u64 (sw q 2 : Nat), .int .u64 (sw q 3 : Nat)]) := hk.val 19 107 (by kernel_rfl) (by kernel_rfl) rfl
          have g108 : T[108]? = some (.agg #[.int .u64 (sw q 0 : Nat), .int .u64 (sw q 1 : Nat), .int .u64 (sw q 2 : Nat), .int .u64 (sw q 3 : Nat)]) := hk.val 20 108 (by kernel_rfl) (by kernel_rfl) rfl
          have q1 := EQ2.out
          have hK := hK _ X hS (Reg.Is.of_val rfl) (fun _ _ _ h => h)
          clear hk
          go_simp
          exact hK
        refine Reg.EachV.plain rfl (fun T X hS hk K hK => ?_) ?_
        · skip
          have g106 : T[106]? = some (.bool true) := hk.val 18 106 (by kernel_rfl) (by kernel_rfl) rfl
          have g109 : T[109]? = some (.bool true) := hk.val 21 109 (by kernel_rfl) (by kernel_rfl) rfl
          have hK := hK _ X hS (Reg.Is.of_val rfl) (fun _ _ _ h => h)
          clear hk
          go_simp
          exact hK
        refine Reg.EachV.plain rfl (fun T X hS hk K hK => ?_) ?_
        · skip
          have g110 : T[110]? = some (.bool true) := hk.val 22 110 (by kernel_rfl) (by kernel_rfl) rfl
          have hK := hK _ X hS (Reg.Is.of_val rfl) (fun _ _ _ h => h)
          clear hk
          go_simp
          exact hK
        refine Reg.EachV.guarded 23 111 true rfl (by kernel_rfl) (by kernel_rfl) rfl (fun T X hS hk K hK => ?_) ?_
        · skip
          have g17 : T[17]? = some (.int .i64 (m : Nat)) := hk.old 17 (by kernel_rfl) rfl
          have hK := hK _ X hS (Reg.Is.of_val rfl) (fun _ _ _ h => h)
          clear hk
          go_simp
          exact hK
        refine Reg.EachV.guarded 23 111 true rfl (by kernel_rfl) (by kernel_rfl) rfl (fun T X hS hk K hK => ?_) ?_
        · skip
          have g9 : T[9]? = some (.int .i64 (m : Nat)) := hk.old 9 (by kernel_rfl) rfl
          have hK := hK _ X hS (Reg.Is.of_val rfl) (fun _ _ _ h => h)
          clear hk
          go_simp
          exact hK
        refine Reg.EachV.guarded 23 111 true rfl (by kernel_rfl) (by kernel_rfl) rfl (fun T X hS hk K hK => ?_) ?_
        · skip
          have g112 : T[112]? = some (.int .i64 (m : Nat)) := hk.val 24 112 (by kernel_rfl) (by kernel_rfl) rfl
          have g113 : T[113]? = some (.int .i64 (m : Nat)) := hk.val 25 113 (by kernel_rfl) (by kernel_rfl) rfl
          have hK := hK _ X hS (Reg.Is.of_val rfl) (fun _ _ _ h => h)
          clear hk
          go_simp
          exact hK
        refine Reg.EachV.plain rfl (fun T X hS hk K hK => ?_) ?_
        · skip
          have g111 : T[111]? = some (.bool true) := hk.val 23 111 (by kernel_rfl) (by kernel_rfl) rfl
          have g114 : T[114]? = some (.bool true) := hk.val 26 114 (by kernel_rfl) (by kernel_rfl) rfl
          have hK := hK _ X hS (Reg.Is.of_val rfl) (fun _ _ _ h => h)
          clear hk
          go_simp
          exact hK
        refine Reg.EachV.plain rfl (fun T X hS hk K hK => ?_) ?_
        · skip
          have g115 : T[115]? = some (.bool true) := hk.val 27 115 (by kernel_rfl) (by kernel_rfl) rfl
          have hK := hK _ X hS (Reg.Is.of_val rfl) (fun _ _ _ h => h)
          clear hk
          go_simp
          exact hK
        refine Reg.EachV.guarded 28 116 true rfl (by kernel_rfl) (by kernel_rfl) rfl (fun T X hS hk K hK => ?_) ?_
        · skip
          clear hk
          go_simp
          refine ((HAW _).out).mono ?_
          rintro e w1 ⟨rfl, hb⟩
          exact hK _ _ (⟨below_thn hS.1 (Nat.le_refl _) hb, (hb.block _ (lt_blkB hS.2.1)).trans hS.2.1, (hb.block _ (lt_blkB hS.2.2.1)).trans hS.2.2.1, (hb.block _ (lt_blkB hS.2.2.2)).trans hS.2.2.2⟩) (Reg.Is.of_val rfl) (fun _ _ _ h => h)
        refine Reg.EachV.plain rfl (fun T X hS hk K hK => ?_) ?_
        · skip
          have g116 : T[116]? = some (.bool true) := hk.val 28 116 (by kernel_rfl) (by kernel_rfl) rfl
          have g117 : T[117]? = some (.bool true) := hk.val 29 117 (by kernel_rfl) (by kernel_rfl) rfl
          have hK := hK _ X hS (Reg.Is.of_val rfl) (fun _ _ _ h => h)
          clear hk
          go_simp
          exact hK
        refine Reg.EachV.plain rfl (fun T X hS hk K hK => ?_) ?_
        · skip
          have g118 : T[118]? = some (.bool true) := hk.val 30 118 (by kernel_rfl) (by kernel_rfl) rfl
          have hK := hK _ X hS (Reg.Is.of_val rfl) (fun _ _ _ h => h)
          clear hk
          go_simp
          exact hK
        exact Reg.EachV.nil
      case rsZ =>
        intro u w1 hS hI
        have e0 : u 0 = .nilIface := (hI 0 (by decide)).val rfl
        have e1 : u 1 = .bool true := (hI 1 (by decide)).val rfl
        have e2 : u 2 = .bool true := (hI 2 (by decide)).val rfl
        have e3 : u 3 = .nilIface := (hI 3 (by decide)).val rfl
        have e4 : u 4 = .bool true := (hI 4 (by decide)).val rfl
        have e5 : u 5 = .bool true := (hI 5 (by decide)).val rfl
        have e6 : u 6 = .bool true := (hI 6 (by decide)).val rfl
        have e7 : u 7 = .agg #[.int .u64 (sw (notP q) 0 : Nat), .int .u64 (sw (notP q) 1 : Nat), .int .u64 (sw (notP q) 2 : Nat), .int .u64 (sw (notP q) 3 : Nat)] := (hI 7 (by decide)).val rfl
        have e8 : u 8 = .agg #[.int .u64 (sw q 0 : Nat), .int .u64 (sw q 1 : Nat), .int .u64 (sw q 2 : Nat), .int .u64 (sw q 3 : Nat)] := (hI 8 (by decide)).val rfl
        have e9 : u 9 = .agg #[.int .u64 (sw (notP q) 0 : Nat), .int .u64 (sw (notP q) 1 : Nat), .int .u64 (sw (notP q) 2 : Nat), .int .u64 (sw (notP q) 3 : Nat)] := (hI 9 (by decide)).val rfl
        have e10 : u 10 = .bool true := (hI 10 (by decide)).val rfl
        have e11 : u 11 = .bool true := (hI 11 (by decide)).val rfl
        have e12 : u 12 = .bool true := (hI 12 (by decide)).val rfl
        have e13 : u 13 = .int .i64 ((m : Int) + 1) := (hI 13 (by decide)).val rfl
        have e14 : u 14 = .int .i64 (m : Nat) := (hI 14 (by decide)).val rfl
        have e15 : u 15 = .int .i64 ((m : Int) + 1) := (hI 15 (by decide)).val rfl
        have e16 : u 16 = .bool true := (hI 16 (by decide)).val rfl
        have e17 : u 17 = .bool true := (hI 17 (by decide)).val rfl
        have e18 : u 18 = .bool true := (hI 18 (by decide)).val rfl
        have e19 : u 19 = .agg #[.int .u64 (sw q 0 : Nat), .int .u64 (sw q 1 : Nat), .int .u64 (sw q 2 : Nat), .int .u64 (sw q 3 : Nat)] := (hI 19 (by decide)).val rfl
        have e20 : u 20 = .agg #[.int .u64 (sw q 0 : Nat), .int .u64 (sw q 1 : Nat), .int .u64 (sw q 2 : Nat), .int .u64 (sw q 3 : Nat)] := (hI 20 (by decide)).val rfl
        have e21 : u 21 = .bool true := (hI 21 (by decide)).val rfl
        have e22 : u 22 = .bool true := (hI 22 (by decide)).val rfl
        have e23 : u 23 = .bool true := (hI 23 (by decide)).val rfl
        have e24 : u 24 = .int .i64 (m : Nat) := (hI 24 (by decide)).val rfl
        have e25 : u 25 = .int .i64 (m : Nat) := (hI 25 (by decide)).val rfl
        have e26 : u 26 = .bool true := (hI 26 (by decide)).val rfl
        have e27 : u 27 = .bool true := (hI 27 (by decide)).val rfl
        have e28 : u 28 = .bool true := (hI 28 (by decide)).val rfl
        have e29 : u 29 = .bool true := (hI 29 (by decide)).val rfl
        have e30 : u 30 = .bool true := (hI 30 (by decide)).val rfl
        have e31 : u 31 = .bool true := (hI 31 (by decide)).val rfl
        clear hI
        simp only [Reg.putAll, Act.put, List.setIfInBounds_toArray, List.set_cons_succ, List.set_cons_zero, Nat.zero_add, Nat.reduceAdd, e0, e1, e2, e3, e4, e5, e6, e7, e8, e9, e10, e11, e12, e13, e14, e15, e16, e17, e18, e19, e20, e21, e22, e23, e24, e25, e26, e27, e28, e29, e30, e31]
        clear e0 e1 e2 e3 e4 e5 e6 e7 e8 e9 e10 e11 e12 e13 e14 e15 e16 e17 e18 e19 e20 e21 e22 e23 e24 e25 e26 e27 e28 e29 e30 e31
        have HBF := Lib.hid hS.1
        clear hS
        go_wp2
        go_ret
        exact ⟨rfl, HBF.out⟩
    | some a1 =>
      have HNR := Lib.hid (newsB HRs.out)
      go_wp2_with (at_builtin; refine wpList_append_own _ rfl (.tmp 80) (.tmp 81) 28 rfl (w2.alloc (.cells #[.int .u64 (sw (notP q) 0 : Nat), .int .u64 (sw (notP q) 1 : Nat), .int .u64 (sw (notP q) 2 : Nat), .int .u64 (sw (notP q) 3 : Nat)] 24)).heap.size 5 i0 (.int .u8 0) 1 1 Tryd.underlying28 hi hz0 hz1 hz2 rfl (by decide) vs (0 + m) ((l.take m).map (Value.int .u8)) rfl HOs.out a1 r.length cap1 (r.map (Value.int .u8)) rfl ?r0 HNR.out.2 (oneB r) ?r3 ?r4 hzs ?_)
      case r3 => unfold maxLen; omega
      case r4 => omega
      intro vt wt hown hgr _
      have HBt : Hid (Below (w2.alloc (.cells #[.int .u64 (sw (notP q) 0 : Nat), .int .u64 (sw (notP q) 1 : Nat), .int .u64 (sw (notP q) 2 : Nat), .int .u64 (sw (notP q) 3 : Nat)] 24)).heap.size (w2.alloc (.cells #[.int .u64 (sw (notP q) 0 : Nat), .int .u64 (sw (notP q) 1 : Nat), .int .u64 (sw (notP q) 2 : Nat), .int .u64 (sw (notP q) 3 : Nat)] 24)) wt) := Lib.hid (HBs.out.grown hgr hzs (fun k hk => (HOs.out.lt k hk).1))
      have HSt : Hid (Sl wt vt (l.take m ++ r)) := Lib.hid (KEY.out vt wt (by simpa using hown))
      clear hown hgr
      have HBwt := Lib.hid (below_thn HBwr.out (Nat.le_refl _) HBt.out)
      have HB3 := Lib.hid (bkt0 cf HCF.out e _ (l.take m ++ r) 2 (by rw [List.length_append, List.length_take]; omega) wt (HN.out.below HBwt.out) HSt.out (by decide) HMO.out)
      have HGt := Lib.hid ((HBt.out.block _ (lt_blkB HGr.out)).trans HGr.out)
      have HHt := Lib.hid ((HBt.out.block _ (lt_blkB HHr.out)).trans HHr.out)
      go_wp2_with fail
      refine HB3.out.mono ?_
      rintro e' w5 ⟨rfl, hb5⟩
      have HG5 := Lib.hid ((hb5.block _ (lt_blkB HGt.out)).trans HGt.out)
      have HH5 := Lib.hid ((hb5.block _ (lt_blkB HHt.out)).trans HHt.out)
      have HBw5 := Lib.hid (below_thn HBwt.out (Nat.le_refl _) hb5)
      clear hb5
      unfold SV
      go_wp2_with fail
      obtain ⟨w6, hV⟩ : ∃ V, V = w5.alloc (.cells #[.int .u64 (sw q 0 : Nat), .int .u64 (sw q 1 : Nat), .int .u64 (sw q 2 : Nat), .int .u64 (sw q 3 : Nat)] 24) := ⟨_, rfl⟩
      rw [← hV]
      have HS0 : Hid (Below w.heap.size w w6 ∧ w6.heap[w1.heap.size]? = some (.cells #[.int .u64 (sw q 0 : Nat), .int .u64 (sw q 1 : Nat), .int .u64 (sw q 2 : Nat), .int .u64 (sw q 3 : Nat)] 24) ∧ w6.heap[w2.heap.size]? = some (.cells #[.int .u64 (sw (notP q) 0 : Nat), .int .u64 (sw (notP q) 1 : Nat), .int .u64 (sw (notP q) 2 : Nat), .int .u64 (sw (notP q) 3 : Nat)] 24) ∧ w6.heap[w5.heap.size]? = some (.cells #[.int .u64 (sw q 0 : Nat), .int .u64 (sw q 1 : Nat), .int .u64 (sw q 2 : Nat), .int .u64 (sw q 3 : Nat)] 24)) := Lib.hid (by rw [hV]; exact ⟨HBw5.out.alloc HBw5.out.size _, (Below.heap_alloc _ _ _ (lt_blkB HG5.out)).trans HG5.out, (Below.heap_alloc _ _ _ (lt_blkB HH5.out)).trans HH5.out, alloc_last _ _⟩)
      clear hV
      have HNo : ∀ w, Hid (Calls Tryd.prog 17 #[.agg #[.int .u64 (sw q 0 : Nat), .int .u64 (sw q 1 : Nat), .int .u64 (sw q 2 : Nat), .int .u64 (sw q 3 : Nat)]] w fun e w' => e = .returned (SV (notP q)) ∧ Below w.heap.size w w') := fun w => Lib.hid (not_any q w)
      have hw : IntKind.i64.wrap ((m : Int) + 1) = (m : Int) + 1 := by rw [IntKind.wrap_i64]; omega
      have EQ1 := Lib.hid (eq_yesM (notP q) (notP q) (fun _ _ => rfl))
      have EQ2 := Lib.hid (eq_yesM q q (fun _ _ => rfl))
      refine Reg.wp_region_vals (fun X => Below w.heap.size w X ∧ X.heap[w1.heap.size]? = some (.cells #[.int .u64 (sw q 0 : Nat), .int .u64 (sw q 1 : Nat), .int .u64 (sw q 2 : Nat), .int .u64 (sw q 3 : Nat)] 24) ∧ X.heap[w2.heap.size]? = some (.cells #[.int .u64 (sw (notP q) 0 : Nat), .int .u64 (sw (notP q) 1 : Nat), .int .u64 (sw (notP q) 2 : Nat), .int .u64 (sw (notP q) 3 : Nat)] 24) ∧ X.heap[w5.heap.size]? = some (.cells #[.int .u64 (sw q 0 : Nat), .int .u64 (sw q 1 : Nat), .int .u64 (sw q 2 : Nat), .int .u64 (sw q 3 : Nat)] 24)) (fun j => ([some (.nilIface), some (.bool true), some (.bool true), some (.nilIface), some (.bool true), some (.bool true), some (.bool true), some (.agg #[.int .u64 (sw (notP q) 0 : Nat), .int .u64 (sw (notP q) 1 : Nat), .int .u64 (sw (notP q) 2 : Nat), .int .u64 (sw (notP q) 3 : Nat)]), some (.agg #[.int .u64 (sw q 0 : Nat), .int .u64 (sw q 1 : Nat), .int .u64 (sw q 2 : Nat), .int .u64 (sw q 3 : Nat)]), some (.agg #[.int .u64 (sw (notP q) 0 : Nat), .int .u64 (sw (notP q) 1 : Nat), .int .u64 (sw (notP q) 2 : Nat), .int .u64 (sw (notP q) 3 : Nat)]), some (.bool true), some (.bool true), some (.bool true), some (.int .i64 ((m : Int) + 1)), some (.int .i64 (m : Nat)), some (.int .i64 ((m : Int) + 1)), some (.bool true), some (.bool true), some (.bool true), some (.agg #[.int .u64 (sw q 0 : Nat), .int .u64 (sw q 1 : Nat), .int .u64 (sw q 2 : Nat), .int .u64 (sw q 3 : Nat)]), some (.agg #[.int .u64 (sw q 0 : Nat), .int .u64 (sw q 1 : Nat), .int .u64 (sw q 2 : Nat), .int .u64 (sw q 3 : Nat)]), some (.bool true), some (.bool true), some (.bool true), some (.int .i64 (m : Nat)), some (.int .i64 (m : Nat)), some (.bool true), some (.bool true), some (.bool true), some (.bool true), some (.bool true), some (.bool true)] : List (Option Value)).getD j none) (fun _ _ _ => True) (by kernel_rfl) (by kernel_rfl) (by kernel_rfl) (by kernel_rfl) ?rs0 ?rsE ?rsZ
      case rs0 => exact ⟨HS0.out.1.drew, HS0.out.2.1, HS0.out.2.2.1, HS0.out.2.2.2⟩
      case rsE =>
        refine Reg.EachV.plain rfl (fun T X hS hk K hK => ?_) ?_
        · skip
          have g13 : T[13]? = some (.nilIface) := hk.old 13 (by kernel_rfl) rfl
          have hK := hK _ X hS (Reg.Is.of_val rfl) (fun _ _ _ h => h)
          clear hk
          go_simp
          exact hK
        refine Reg.EachV.plain rfl (fun T X hS hk K hK => ?_) ?_
        · skip
          have g88 : T[88]? = some (.nilIface) := hk.val 0 88 (by kernel_rfl) (by kernel_rfl) rfl
          have hK := hK _ X hS (Reg.Is.of_val rfl) (fun _ _ _ h => h)
          clear hk
          go_simp
          exact hK
        refine Reg.EachV.plain rfl (fun T X hS hk K hK => ?_) ?_
        · skip
          have g89 : T[89]? = some (.bool true) := hk.val 1 89 (by kernel_rfl) (by kernel_rfl) rfl
          have hK := hK _ X hS (Reg.Is.of_val rfl) (fun _ _ _ h => h)
          clear hk
          go_simp
          exact hK
        refine Reg.EachV.guarded 2 90 true rfl (by kernel_rfl) (by kernel_rfl) rfl (fun T X hS hk K hK => ?_) ?_
        · skip
          have g18 : T[18]? = some (.nilIface) := hk.old 18 (by kernel_rfl) rfl
          have hK := hK _ X hS (Reg.Is.of_val rfl) (fun _ _ _ h => h)
          clear hk
          go_simp
          exact hK
        refine Reg.EachV.guarded 2 90 true rfl (by kernel_rfl) (by kernel_rfl) rfl (fun T X hS hk K hK => ?_) ?_
        · skip
          have g91 : T[91]? = some (.nilIface) := hk.val 3 91 (by kernel_rfl) (by kernel_rfl) rfl
          have hK := hK _ X hS (Reg.Is.of_val rfl) (fun _ _ _ h => h)
          clear hk
          go_simp
          exact hK
        refine Reg.EachV.plain rfl (fun T X hS hk K hK => ?_) ?_
        · skip
          have g90 : T[90]? = some (.bool true) := hk.val 2 90 (by kernel_rfl) (by kernel_rfl) rfl
          have g92 : T[92]? = some (.bool true) := hk.val 4 92 (by kernel_rfl) (by kernel_rfl) rfl
          have hK := hK _ X hS (Reg.Is.of_val rfl) (fun _ _ _ h => h)
          clear hk
          go_simp
          exact hK
        refine Reg.EachV.plain rfl (fun T X hS hk K hK => ?_) ?_
        · skip
          have g93 : T[93]? = some (.bool true) := hk.val 5 93 (by kernel_rfl) (by kernel_rfl) rfl
          have hK := hK _ X hS (Reg.Is.of_val rfl) (fun _ _ _ h => h)
          clear hk
          go_simp
          exact hK
        refine Reg.EachV.guarded 6 94 true rfl (by kernel_rfl) (by kernel_rfl) rfl (fun T X hS hk K hK => ?_) ?_
        · skip
          have g11 : T[11]? = some (.pointer (some ⟨w2.heap.size, 0, none⟩)) := hk.old 11 (by kernel_rfl) rfl
          obtain ⟨⟨y0, y1, y2, y3⟩, _, _⟩ := cells4 hS.2.2.1
          have hK := hK _ X hS (Reg.Is.of_val rfl) (fun _ _ _ h => h)
          clear hk
          go_simp
          exact hK
        refine Reg.EachV.guarded 6 94 true rfl (by kernel_rfl) (by kernel_rfl) rfl (fun T X hS hk K hK => ?_) ?_
        · skip
          have g8 : T[8]? = some (.pointer (some ⟨w1.heap.size, 0, none⟩)) := hk.old 8 (by kernel_rfl) rfl
          obtain ⟨⟨y0, y1, y2, y3⟩, _, _⟩ := cells4 hS.2.1
          have hK := hK _ X hS (Reg.Is.of_val rfl) (fun _ _ _ h => h)
          clear hk
          go_simp
          exact hK
        refine Reg.EachV.guarded 6 94 true rfl (by kernel_rfl) (by kernel_rfl) rfl (fun T X hS hk K hK => ?_) ?_
        · skip
          have g96 : T[96]? = some (.agg #[.int .u64 (sw q 0 : Nat), .int .u64 (sw q 1 : Nat), .int .u64 (sw q 2 : Nat), .int .u64 (sw q 3 : Nat)]) := hk.val 8 96 (by kernel_rfl) (by kernel_rfl) rfl
          clear hk
          go_simp
          refine ((HNo _).out).mono ?_
          rintro e w1 ⟨rfl, hb⟩
          exact hK _ _ (⟨below_thn hS.1 (Nat.le_refl _) hb, (hb.block _ (lt_blkB hS.2.1)).trans hS.2.1, (hb.block _ (lt_blkB hS.2.2.1)).trans hS.2.2.1, (hb.block _ (lt_blkB hS.2.2.2)).trans hS.2.2.2⟩) (Reg.Is.of_val rfl) (fun _ _ _ h => h)
        refine Reg.EachV.guarded 6 94 true rfl (by kernel_rfl) (by kernel_rfl) rfl (fun T X hS hk K hK => ?_) ?_
        · skip
          have g95 : T[95]? = some (.agg #[.int .u64 (sw (notP q) 0 : Nat), .int .u64 (sw (notP q) 1 : Nat), .int .u64 (sw (notP q) 2 : Nat), .int .u64 (sw (notP q) 3 : Nat)]) := hk.val 7 95 (by kernel_rfl) (by kernel_rfl) rfl
          have g97 : T[97]? = some (.agg #[.int .u64 (sw (notP q) 0 : Nat), .int .u64 (sw (notP q) 1 : Nat), .int .u64 (sw (notP q) 2 : Nat), .int .u64 (sw (notP q) 3 : Nat)]) := hk.val 9 97 (by kernel_rfl) (by kernel_rfl) rfl
          have q1 := EQ1.out
          have hK := hK _ X hS (Reg.Is.of_val rfl) (fun _ _ _ h => h)
          clear hk
          go_simp
          exact hK
        refine Reg.EachV.plain rfl (fun T X hS hk K hK => ?_) ?_
        · skip
          have g94 : T[94]? = some (.bool true) := hk.val 6 94 (by kernel_rfl) (by kernel_rfl) rfl
          have g98 : T[98]? = some (.bool true) := hk.val 10 98 (by kernel_rfl) (by kernel_rfl) rfl
          have hK := hK _ X hS (Reg.Is.of_val rfl) (fun _ _ _ h => h)
          clear hk
          go_simp
          exact hK
        refine Reg.EachV.plain rfl (fun T X hS hk K hK => ?_) ?_
        · skip
          have g99 : T[99]? = some (.bool true) := hk.val 11 99 (by kernel_rfl) (by kernel_rfl) rfl
          have hK := hK _ X hS (Reg.Is.of_val rfl) (fun _ _ _ h => h)
          clear hk
          go_simp
          exact hK
        refine Reg.EachV.guarded 12 100 true rfl (by kernel_rfl) (by kernel_rfl) rfl (fun T X hS hk K hK => ?_) ?_
        · skip
          have g12 : T[12]? = some (.int .i64 ((m : Int) + 1)) := hk.old 12 (by kernel_rfl) rfl
          have hK := hK _ X hS (Reg.Is.of_val rfl) (fun _ _ _ h => h)
          clear hk
          go_simp
          exact hK
        refine Reg.EachV.guarded 12 100 true rfl (by kernel_rfl) (by kernel_rfl) rfl (fun T X hS hk K hK => ?_) ?_
        · skip
          have g9 : T[9]? = some (.int .i64 (m : Nat)) := hk.old 9 (by kernel_rfl) rfl
          have hK := hK _ X hS (Reg.Is.of_val rfl) (fun _ _ _ h => h)
          clear hk
          go_simp
          exact hK
        refine Reg.EachV.guarded 12 100 true rfl (by kernel_rfl) (by kernel_rfl) rfl (fun T X hS hk K hK => ?_) ?_
        · skip
          have g102 : T[102]? = some (.int .i64 (m : Nat)) := hk.val 14 102 (by kernel_rfl) (by kernel_rfl) rfl
          have hK := hK _ X hS (Reg.Is.of_val rfl) (fun _ _ _ h => h)
          clear hk
          go_simp
          exact hK
        refine Reg.EachV.guarded 12 100 true rfl (by kernel_rfl) (by kernel_rfl) rfl (fun T X hS hk K hK => ?_) ?_
        · skip
          have g101 : T[101]? = some (.int .i64 ((m : Int) + 1)) := hk.val 13 101 (by kernel_rfl) (by kernel_rfl) rfl
          have g103 : T[103]? = some (.int .i64 ((m : Int) + 1)) := hk.val 15 103 (by kernel_rfl) (by kernel_rfl) rfl
          have hK := hK _ X hS (Reg.Is.of_val rfl) (fun _ _ _ h => h)
          clear hk
          go_simp
          exact hK
        refine Reg.EachV.plain rfl (fun T X hS hk K hK => ?_) ?_
        · skip
          have g100 : T[100]? = some (.bool true) := hk.val 12 100 (by kernel_rfl) (by kernel_rfl) rfl
          have g104 : T[104]? = some (.bool true) := hk.val 16 104 (by kernel_rfl) (by kernel_rfl) rfl
          have hK := hK _ X hS (Reg.Is.of_val rfl) (fun _ _ _ h => h)
          clear hk
          go_simp
          exact hK
        refine Reg.EachV.plain rfl (fun T X hS hk K hK => ?_) ?_
        · skip
          have g105 : T[105]? = some (.bool true) := hk.val 17 105 (by kernel_rfl) (by kernel_rfl) rfl
          have hK := hK _ X hS (Reg.Is.of_val rfl) (fun _ _ _ h => h)
          clear hk
          go_simp
          exact hK
        refine Reg.EachV.guarded 18 106 true rfl (by kernel_rfl) (by kernel_rfl) rfl (fun T X hS hk K hK => ?_) ?_
        · skip
          have g16 : T[16]? = some (.pointer (some ⟨w5.heap.size, 0, none⟩)) := hk.old 16 (by kernel_rfl) rfl
          obtain ⟨⟨y0, y1, y2, y3⟩, _, _⟩ := cells4 hS.2.2.2
          have hK := hK _ X hS (Reg.Is.of_val rfl) (fun _ _ _ h => h)
          clear hk
          go_simp
          exact hK
        refine Reg.EachV.guarded 18 106 true rfl (by kernel_rfl) (by kernel_rfl) rfl (fun T X hS hk K hK => ?_) ?_
        · skip
          have g8 : T[8]? = some (.pointer (some ⟨w1.heap.size, 0, none⟩)) := hk.old 8 (by kernel_rfl) rfl
          obtain ⟨⟨y0, y1, y2, y3⟩, _, _⟩ := cells4 hS.2.1
          have hK := hK _ X hS (Reg.Is.of_val rfl) (fun _ _ _ h => h)
          clear hk
          go_simp
          exact hK
        refine Reg.EachV.guarded 18 106 true rfl (by kernel_rfl) (by kernel_rfl) rfl (fun T X hS hk K hK => ?_) ?_
        · skip
          have g107 : T[107]? = some (.agg #[.int .u64 (sw q 0 : Nat), .int .u64 (sw q 1 : Nat), .int .u64 (sw q 2 : Nat), .int .u64 (sw q 3 : Nat)]) := hk.val 19 107 (by kernel_rfl) (by kernel_rfl) rfl
          have g108 : T[108]? = some (.agg #[.int .u64 (sw q 0 : Nat), .int .u64 (sw q 1 : Nat), .int .u64 (sw q 2 : Nat), .int .u64 (sw q 3 : Nat)]) := hk.val 20 108 (by kernel_rfl) (by kernel_rfl) rfl
          have q1 := EQ2.out
          have hK := hK _ X hS (Reg.Is.of_val rfl) (fun _ _ _ h => h)
          clear hk
          go_simp
          exact hK
        refine Reg.EachV.plain rfl (fun T X hS hk K hK => ?_) ?_
        · skip
          have g106 : T[106]? = some (.bool true) := hk.val 18 106 (by kernel_rfl) (by kernel_rfl) rfl
          have g109 : T[109]? = some (.bool true) := hk.val 21 109 (by kernel_rfl) (by kernel_rfl) rfl
          have hK := hK _ X hS (Reg.Is.of_val rfl) (fun _ _ _ h => h)
          clear hk
          go_simp
          exact hK
        refine Reg.EachV.plain rfl (fun T X hS hk K hK => ?_) ?_
        · skip
          have g110 : T[110]? = some (.bool true) := hk.val 22 110 (by kernel_rfl) (by kernel_rfl) rfl
          have hK := hK _ X hS (Reg.Is.of_val rfl) (fun _ _ _ h => h)
          clear hk
          go_simp
          exact hK
        refine Reg.EachV.guarded 23 111 true rfl (by kernel_rfl) (by kernel_rfl) rfl (fun T X hS hk K hK => ?_) ?_
        · skip
          have g17 : T[17]? = some (.int .i64 (m : Nat)) := hk.old 17 (by kernel_rfl) rfl
          have hK := hK _ X hS (Reg.Is.of_val rfl) (fun _ _ _ h => h)
          clear hk
          go_simp
          exact hK
        refine Reg.EachV.guarded 23 111 true rfl (by kernel_rfl) (by kernel_rfl) rfl (fun T X hS hk K hK => ?_) ?_
        · skip
          have g9 : T[9]? = some (.int .i64 (m : Nat)) := hk.old 9 (by kernel_rfl) rfl
          have hK := hK _ X hS (Reg.Is.of_val rfl) (fun _ _ _ h => h)
          clear hk
          go_simp
          exact hK
        refine Reg.EachV.guarded 23 111 true rfl (by kernel_rfl) (by kernel_rfl) rfl (fun T X hS hk K hK => ?_) ?_
        · skip
          have g112 : T[112]? = some (.int .i64 (m : Nat)) := hk.val 24 112 (by kernel_rfl) (by kernel_rfl) rfl
          have g113 : T[113]? = some (.int .i64 (m : Nat)) := hk.val 25 113 (by kernel_rfl) (by kernel_rfl) rfl
          have hK := hK _ X hS (Reg.Is.of_val rfl) (fun _ _ _ h => h)
          clear hk
          go_simp
          exact hK
        refine Reg.EachV.plain rfl (fun T X hS hk K hK => ?_) ?_
        · skip
          have g111 : T[111]? = some (.bool true) := hk.val 23 111 (by kernel_rfl) (by kernel_rfl) rfl
          have g114 : T[114]? = some (.bool true) := hk.val 26 114 (by kernel_rfl) (by kernel_rfl) rfl
          have hK := hK _ X hS (Reg.Is.of_val rfl) (fun _ _ _ h => h)
          clear hk
          go_simp
          exact hK
        refine Reg.EachV.plain rfl (fun T X hS hk K hK => ?_) ?_
        · skip
          have g115 : T[115]? = some (.bool true) := hk.val 27 115 (by kernel_rfl) (by kernel_rfl) rfl
          have hK := hK _ X hS (Reg.Is.of_val rfl) (fun _ _ _ h => h)
          clear hk
          go_simp
          exact hK
        refine Reg.EachV.guarded 28 116 true rfl (by kernel_rfl) (by kernel_rfl) rfl (fun T X hS hk K hK => ?_) ?_
        · skip
          clear hk
          go_simp
          refine ((HAW _).out).mono ?_
          rintro e w1 ⟨rfl, hb⟩
          exact hK _ _ (⟨below_thn hS.1 (Nat.le_refl _) hb, (hb.block _ (lt_blkB hS.2.1)).trans hS.2.1, (hb.block _ (lt_blkB hS.2.2.1)).trans hS.2.2.1, (hb.block _ (lt_blkB hS.2.2.2)).trans hS.2.2.2⟩) (Reg.Is.of_val rfl) (fun _ _ _ h => h)
        refine Reg.EachV.plain rfl (fun T X hS hk K hK => ?_) ?_
        · skip
          have g116 : T[116]? = some (.bool true) := hk.val 28 116 (by kernel_rfl) (by kernel_rfl) rfl
          have g117 : T[117]? = some (.bool true) := hk.val 29 117 (by kernel_rfl) (by kernel_rfl) rfl
          have hK := hK _ X hS (Reg.Is.of_val rfl) (fun _ _ _ h => h)
          clear hk
          go_simp
          exact hK
        refine Reg.EachV.plain rfl (fun T X hS hk K hK => ?_) ?_
        · skip
          have g118 : T[118]? = some (.bool true) := hk.val 30 118 (by kernel_rfl) (by kernel_rfl) rfl
          have hK := hK _ X hS (Reg.Is.of_val rfl) (fun _ _ _ h => h)
          clear hk
          go_simp
          exact hK
        exact Reg.EachV.nil
      case rsZ =>
        intro u w1 hS hI
        have e0 : u 0 = .nilIface := (hI 0 (by decide)).val rfl
        have e1 : u 1 = .bool true := (hI 1 (by decide)).val rfl
        have e2 : u 2 = .bool true := (hI 2 (by decide)).val rfl
        have e3 : u 3 = .nilIface := (hI 3 (by decide)).val rfl
        have e4 : u 4 = .bool true := (hI 4 (by decide)).val rfl
        have e5 : u 5 = .bool true := (hI 5 (by decide)).val rfl
        have e6 : u 6 = .bool true := (hI 6 (by decide)).val rfl
        have e7 : u 7 = .agg #[.int .u64 (sw (notP q) 0 : Nat), .int .u64 (sw (notP q) 1 : Nat), .int .u64 (sw (notP q) 2 : Nat), .int .u64 (sw (notP q) 3 : Nat)] := (hI 7 (by decide)).val rfl
        have e8 : u 8 = .agg #[.int .u64 (sw q 0 : Nat), .int .u64 (sw q 1 : Nat), .int .u64 (sw q 2 : Nat), .int .u64 (sw q 3 : Nat)] := (hI 8 (by decide)).val rfl
        have e9 : u 9 = .agg #[.int .u64 (sw (notP q) 0 : Nat), .int .u64 (sw (notP q) 1 : Nat), .int .u64 (sw (notP q) 2 : Nat), .int .u64 (sw (notP q) 3 : Nat)] := (hI 9 (by decide)).val rfl
        have e10 : u 10 = .bool true := (hI 10 (by decide)).val rfl
        have e11 : u 11 = .bool true := (hI 11 (by decide)).val rfl
        have e12 : u 12 = .bool true := (hI 12 (by decide)).val rfl
        have e13 : u 13 = .int .i64 ((m : Int) + 1) := (hI 13 (by decide)).val rfl
        have e14 : u 14 = .int .i64 (m : Nat) := (hI 14 (by decide)).val rfl
        have e15 : u 15 = .int .i64 ((m : Int) + 1) := (hI 15 (by decide)).val rfl
        have e16 : u 16 = .bool true := (hI 16 (by decide)).val rfl
        have e17 : u 17 = .bool true := (hI 17 (by decide)).val rfl
        have e18 : u 18 = .bool true := (hI 18 (by decide)).val rfl
        have e19 : u 19 = .agg #[.int .u64 (sw q 0 : Nat), .int .u64 (sw q 1 : Nat), .int .u64 (sw q 2 : Nat), .int .u64 (sw q 3 : Nat)] := (hI 19 (by decide)).val rfl
        have e20 : u 20 = .agg #[.int .u64 (sw q 0 : Nat), .int .u64 (sw q 1 : Nat), .int .u64 (sw q 2 : Nat), .int .u64 (sw q 3 : Nat)] := (hI 20 (by decide)).val rfl
        have e21 : u 21 = .bool true := (hI 21 (by decide)).val rfl
        have e22 : u 22 = .bool true := (hI 22 (by decide)).val rfl
        have e23 : u 23 = .bool true := (hI 23 (by decide)).val rfl
        have e24 : u 24 = .int .i64 (m : Nat) := (hI 24 (by decide)).val rfl
        have e25 : u 25 = .int .i64 (m : Nat) := (hI 25 (by decide)).val rfl
        have e26 : u 26 = .bool true := (hI 26 (by decide)).val rfl
        have e27 : u 27 = .bool true := (hI 27 (by decide)).val rfl
        have e28 : u 28 = .bool true := (hI 28 (by decide)).val rfl
        have e29 : u 29 = .bool true := (hI 29 (by decide)).val rfl
        have e30 : u 30 = .bool true := (hI 30 (by decide)).val rfl
        have e31 : u 31 = .bool true := (hI 31 (by decide)).val rfl
        clear hI
        simp only [Reg.putAll, Act.put, List.setIfInBounds_toArray, List.set_cons_succ, List.set_cons_zero, Nat.zero_add, Nat.reduceAdd, e0, e1, e2, e3, e4, e5, e6, e7, e8, e9, e10, e11, e12, e13, e14, e15, e16, e17, e18, e19, e20, e21, e22, e23, e24, e25, e26, e27, e28, e29, e30, e31]
        clear e0 e1 e2 e3 e4 e5 e6 e7 e8 e9 e10 e11 e12 e13 e14 e15 e16 e17 e18 e19 e20 e21 e22 e23 e24 e25 e26 e27 e28 e29 e30 e31
        have HBF := Lib.hid hS.1
        clear hS
        go_wp2
        go_ret
        exact ⟨rfl, HBF.out⟩
set_option maxRecDepth 100000 in
theorem turned_none_true (ad : Option Addr) (cap : Nat) (v' : Value) (w : World) (n' cap' : Nat) (a' : Option Addr) (hv : v' = .slice a' n' cap') :
    Calls Tryd.prog 5 #[.slice ad 0 cap, v', .bool true] w fun x w' => x = .returned (.bool true) ∧ Below w.heap.size w w' := by
  subst hv
  have HAW : ∀ w, Hid (Calls Tryd.prog 13 #[] w fun e w' => e = .returned (.bool true) ∧ Below w.heap.size w w') := fun w => Lib.hid (awake5_any w)
  go_enter Tryd.func5, Tryd.ntmps5
  go_wp2_with fail
  refine (HAW _).out.mono ?_
  rintro e' w5 ⟨rfl, hb5⟩
  have HB := Lib.hid hb5
  clear hb5
  go_wp2
  go_ret
  exact ⟨rfl, HB.out⟩
set_option maxRecDepth 100000 in
theorem turned_94_true (x o n cap : Nat) (v' : Value) (w : World) (n' cap' : Nat) (a' : Option Addr) (hv : v' = .slice a' n' cap') (hn : 0 < n) (hc : w.cell? ⟨x, o, none⟩ = some (.int .u8 94)) :
    Calls Tryd.prog 5 #[.slice (some ⟨x, o, none⟩) n cap, v', .bool true] w fun x w' => x = .returned (.bool true) ∧ Below w.heap.size w w' := by
  subst hv
  have hlI : ((n : Nat) : Int) ≠ 0 := by omega
  have hlb : ((n : Int) == 0) = false := beq_eq_false_iff_ne.2 hlI
  have hlp : (0 : Int) < (n : Int) := by omega
  have HAW : ∀ w, Hid (Calls Tryd.prog 13 #[] w fun e w' => e = .returned (.bool true) ∧ Below w.heap.size w w') := fun w => Lib.hid (awake5_any w)
  go_enter Tryd.func5, Tryd.ntmps5
  go_wp2_with fail
  refine (HAW _).out.mono ?_
  rintro e' w5 ⟨rfl, hb5⟩
  have HB := Lib.hid hb5
  clear hb5
  go_wp2
  go_ret
  exact ⟨rfl, HB.out⟩
set_option maxRecDepth 100000 in
theorem turned_33_true (x o n cap : Nat) (v' : Value) (w : World) (n' cap' : Nat) (a' : Option Addr) (hv : v' = .slice a' n' cap') (hn : 0 < n) (hc : w.cell? ⟨x, o, none⟩ = some (.int .u8 33)) :
    Calls Tryd.prog 5 #[.slice (some ⟨x, o, none⟩) n cap, v', .bool true] w fun x w' => x = .returned (.bool true) ∧ Below w.heap.size w w' := by
  subst hv
  have hlI : ((n : Nat) : Int) ≠ 0 := by omega
  have hlb : ((n : Int) == 0) = false := beq_eq_false_iff_ne.2 hlI
  have hlp : (0 : Int) < (n : Int) := by omega
  have HAW : ∀ w, Hid (Calls Tryd.prog 13 #[] w fun e w' => e = .returned (.bool true) ∧ Below w.heap.size w w') := fun w => Lib.hid (awake5_any w)
  go_enter Tryd.func5, Tryd.ntmps5
  go_wp2_with fail
  refine (HAW _).out.mono ?_
  rintro e' w5 ⟨rfl, hb5⟩
  have HB := Lib.hid hb5
  clear hb5
  go_wp2
  go_ret
  exact ⟨rfl, HB.out⟩
set_option maxRecDepth 100000 in
theorem turned_none_false (ad : Option Addr) (cap : Nat) (v' : Value) (w : World) (n' cap' : Nat) (a' : Option Addr) (hv : v' = .slice a' n' cap') :
    Calls Tryd.prog 5 #[.slice ad 0 cap, v', .bool false] w fun x w' => x = .returned (.bool true) ∧ Below w.heap.size w w' := by
  subst hv
  have HAW : ∀ w, Hid (Calls Tryd.prog 13 #[] w fun e w' => e = .returned (.bool true) ∧ Below w.heap.size w w') := fun w => Lib.hid (awake5_any w)
  go_enter Tryd.func5, Tryd.ntmps5
  go_wp2_with fail
  refine (HAW _).out.mono ?_
  rintro e' w5 ⟨rfl, hb5⟩
  have HB := Lib.hid hb5
  clear hb5
  go_wp2
  go_ret
  exact ⟨rfl, HB.out⟩
set_option maxRecDepth 100000 in
theorem turned_94_false (x o n cap : Nat) (v' : Value) (w : World) (n' cap' : Nat) (a' : Option Addr) (hv : v' = .slice a' n' cap') (hn : 0 < n) (hc : w.cell? ⟨x, o, none⟩ = some (.int .u8 94)) :
    Calls Tryd.prog 5 #[.slice (some ⟨x, o, none⟩) n cap, v', .bool false] w fun x w' => x = .returned (.bool true) ∧ Below w.heap.size w w' := by
  subst hv
  have hlI : ((n : Nat) : Int) ≠ 0 := by omega
  have hlb : ((n : Int) == 0) = false := beq_eq_false_iff_ne.2 hlI
  have hlp : (0 : Int) < (n : Int) := by omega
  have HAW : ∀ w, Hid (Calls Tryd.prog 13 #[] w fun e w' => e = .returned (.bool true) ∧ Below w.heap.size w w') := fun w => Lib.hid (awake5_any w)
  go_enter Tryd.func5, Tryd.ntmps5
  go_wp2_with fail
  refine (HAW _).out.mono ?_
  rintro e' w5 ⟨rfl, hb5⟩
  have HB := Lib.hid hb5
  clear hb5
  go_wp2
  go_ret
  exact ⟨rfl, HB.out⟩
set_option maxRecDepth 100000 in
theorem turned_33_false (x o n cap : Nat) (v' : Value) (w : World) (n' cap' : Nat) (a' : Option Addr) (hv : v' = .slice a' n' cap') (hn : 0 < n) (hc : w.cell? ⟨x, o, none⟩ = some (.int .u8 33)) :
    Calls Tryd.prog 5 #[.slice (some ⟨x, o, none⟩) n cap, v', .bool false] w fun x w' => x = .returned (.bool true) ∧ Below w.heap.size w w' := by
  subst hv
  have hlI : ((n : Nat) : Int) ≠ 0 := by omega
  have hlb : ((n : Int) == 0) = false := beq_eq_false_iff_ne.2 hlI
  have hlp : (0 : Int) < (n : Int) := by omega
  have HAW : ∀ w, Hid (Calls Tryd.prog 13 #[] w fun e w' => e = .returned (.bool true) ∧ Below w.heap.size w w') := fun w => Lib.hid (awake5_any w)
  go_enter Tryd.func5, Tryd.ntmps5
  go_wp2_with fail
  refine (HAW _).out.mono ?_
  rintro e' w5 ⟨rfl, hb5⟩
  have HB := Lib.hid hb5
  clear hb5
  go_wp2
  go_ret
  exact ⟨rfl, HB.out⟩
theorem turned_any (e : Nat → Addr) (v v' : Value) (l r : List Int) (g : Bool) (hlen : l.length + r.length ≤ 4194304) (w : World) (hsn : Snt w e) (hs : Sl w v l) (hr : Sl w v' r) (hnil : ∀ n cap, v' = .slice none n cap → n = 0 ∧ cap = 0) :
    Calls Tryd.prog 5 #[v, v', .bool g] w fun x w' => x = .returned (.bool true) ∧ Below w.heap.size w w' := by
  obtain ⟨cf, hcf⟩ := classes_ok
  obtain ⟨a1, cap1, hv'⟩ : ∃ a1 cap1, v' = .slice a1 r.length cap1 := by
    obtain ⟨_, _, ⟨rfl, a, cap, rfl⟩ | ⟨b, o, cap, rfl, _, _, _⟩⟩ := hr
    · exact ⟨a, cap, rfl⟩
    · exact ⟨_, cap, rfl⟩
  have hs' := hs
  obtain ⟨hy, hl, ⟨rfl, ad, cap, rfl⟩ | ⟨x, o, cap, rfl, hcl, hcm, hrow⟩⟩ := hs'
  · cases g
    · exact turned_none_false ad cap v' w _ _ _ hv'
    · exact turned_none_true ad cap v' w _ _ _ hv'
  · by_cases h0 : l.length = 0
    · cases g
      · rw [h0]; exact turned_none_false _ cap v' w _ _ _ hv'
      · rw [h0]; exact turned_none_true _ cap v' w _ _ _ hv'
    · have hc := hrow 0 (by omega)
      rw [Nat.add_zero] at hc
      by_cases h94 : l.getD 0 0 = 94
      · rw [h94] at hc
        cases g
        · exact turned_94_false x o _ cap v' w _ _ _ hv' (by omega) hc
        · exact turned_94_true x o _ cap v' w _ _ _ hv' (by omega) hc
      · by_cases h33 : l.getD 0 0 = 33
        · rw [h33] at hc
          cases g
          · exact turned_33_false x o _ cap v' w _ _ _ hv' (by omega) hc
          · exact turned_33_true x o _ cap v' w _ _ _ hv' (by omega) hc
        · subst hv'
          cases g
          · exact turned_ere cf hcf e x o cap a1 cap1 l r hlen w hsn hs hr (fun h => hnil _ _ (by rw [h])) (by omega) hcl hc h94 h33
          · exact turned_glob cf hcf e x o cap a1 cap1 l r hlen w hsn hs hr (fun h => hnil _ _ (by rw [h])) (by omega) hcl hc h94 h33
end Go.Proofs.YtndgomocehfmgaaDoor
