/- KPl: several texts in one (kmerge.py). -/
import Derived.Test.YtlkcopjjeknbkaaGreatDoorReO
import Derived.Test.YtlkcopjjeknbkaaGreatDoorKTb
import Derived.Test.YtlkcopjjeknbkaaGreatDoorKPu
import Derived.Test.YtlkcopjjeknbkaaGreatDoorKFb
import Derived.Test.YtlkcopjjeknbkaaGreatDoorSeCxB
import Derived.Test.YtlkcopjjeknbkaaGreatDoorScOpen
/- RetextPlaces: its walk, opened. -/
namespace Go.Proofs.YtlkcopjjeknbkaaGreatDoor
open Go.RowKit

set_option maxRecDepth 100000 in
set_option maxHeartbeats 16000000 in
theorem rpl_bad4 (w : World) (ad : Option Addr) (n cap : Nat) (c p : Nat) (Φ : Nat → World → Prop) (hp : p ≤ n) (hc : c ≠ 22) (hl : c = 2 ↔ 256 < n)
    (HP : Hid (Calls Tryz.prog 11 #[.slice ad n cap, (.bool true)] w fun x w' => ∃ k, x = .returned (.tuple #[.pointer none, .iface 81 (.pointer (some ⟨k, 0, none⟩))]) ∧ Φ k w' ∧ Below w.heap.size w w'))
    (HT : Hid (∀ k w1, Φ k w1 → Below w.heap.size w w1 → Calls Tryz.prog 13 #[.iface 81 (.pointer (some ⟨k, 0, none⟩))] w1 fun x w' => x = .returned (.agg #[.int .i64 c, .int .i64 p, .int .i64 4]) ∧ Below w1.heap.size w1 w'))
    (HA : Hid (∀ X, Below w.heap.size w X → Calls Tryz.prog 14 #[] X fun x w' => x = .returned (.bool true) ∧ Below X.heap.size X w')) :
    Calls Tryz.prog 10 #[.slice ad n cap, (.bool true)] w fun x w' => x = .returned (.bool true) ∧ Below w.heap.size w w' := by
  have hp0 : ¬ (p : Int) < 0 := by omega
  have hp1 : (p : Int) ≤ (n : Int) := by omega
  have hp2 : (0 : Int) ≤ (p : Int) := by omega
  have hc0 : ¬ (c : Int) = 22 := by omega
  have hc1 : ((c : Int) == 22) = false := by simp; omega
  have hd0 : decide ((c : Int) = 22) = false := decide_eq_false hc0
  have hd1 : decide (¬ (c : Int) = 22) = true := decide_eq_true hc0
  have hd2 : ((c : Int) != 22) = true := by simp; omega
  have hd3 : ¬ c = 22 := hc
  have h2 : (((c : Int) == 2) = true ∧ decide ((c : Int) = 2) = true ∧ decide ((256 : Int) < (n : Int)) = true ∧ decide (256 < n) = true) ∨ (((c : Int) == 2) = false ∧ decide ((c : Int) = 2) = false ∧ decide ((256 : Int) < (n : Int)) = false ∧ decide (256 < n) = false) := by
    by_cases h : 256 < n
    · have := hl.2 h
      exact Or.inl ⟨by simp; omega, decide_eq_true (by omega), decide_eq_true (by omega), decide_eq_true h⟩
    · have h2 : c ≠ 2 := fun e => h (hl.1 e)
      exact Or.inr ⟨by simp; omega, decide_eq_false (by omega), decide_eq_false (by omega), decide_eq_false h⟩
  clear hl hc hc0
  rcases h2 with ⟨h1, h2, h3, h4⟩ | ⟨h1, h2, h3, h4⟩
  all_goals
    go_enter Tryz.func10, Tryz.ntmps10
    go_wp2_with fail
    refine HP.out.mono ?_
    rintro x w1 ⟨k, rfl, hΦ, hb1⟩
    have HT1 := Lib.hid (HT.out k w1 hΦ hb1)
    have HB1 := Lib.hid hb1
    clear hΦ hb1
    go_wp2_with fail
    refine HT1.out.mono ?_
    rintro x w2 ⟨rfl, hb2⟩
    have HB2 := Lib.hid (below_thn HB1.out (Nat.le_refl _) hb2)
    clear hb2
    go_upto_region 3 with fail
    obtain ⟨w3, hw3⟩ : ∃ w3, w3 = w2.alloc (.cells #[.int .i64 c, .int .i64 p, .int .i64 4] 35) := ⟨_, rfl⟩
    rw [← hw3]
    have h3 : w3.heap[w2.heap.size]? = some (.cells #[.int .i64 c, .int .i64 p, .int .i64 4] 35 (0, 0)) := by rw [hw3]; exact alloc_last _ _
    have HB3 : Hid (Below w.heap.size w w3) := Lib.hid (by rw [hw3]; exact HB2.out.alloc HB2.out.size _)
    have y0 : w3.cell? ⟨w2.heap.size, 0, none⟩ = some (.int .i64 c) := (Lib.cell_of_heap h3 0).trans rfl
    have y1 : w3.cell? ⟨w2.heap.size, 1, none⟩ = some (.int .i64 p) := (Lib.cell_of_heap h3 1).trans rfl
    have y2 : w3.cell? ⟨w2.heap.size, 2, none⟩ = some (.int .i64 4) := (Lib.cell_of_heap h3 2).trans rfl
    have yz := lt_blkB h3
    clear hw3 h3
    have HA3 := Lib.hid (HA.out w3 HB3.out)
    go_wp2_with fail
    refine HA3.out.mono ?_
    rintro x w4 ⟨rfl, hb4⟩
    have HZ := Lib.hid (below_thn HB3.out (Nat.le_refl _) hb4)
    clear hb4
    go_wp2
    go_ret
    exact ⟨rfl, HZ.out⟩
set_option maxRecDepth 100000 in
set_option maxHeartbeats 16000000 in
theorem rpl_bad3 (w : World) (ad : Option Addr) (n cap : Nat) (c p : Nat) (Φ : Nat → World → Prop) (hp : p ≤ n) (hc : c ≠ 22) (hl : c = 2 ↔ 256 < n)
    (HP : Hid (Calls Tryz.prog 11 #[.slice ad n cap, (.bool false)] w fun x w' => ∃ k, x = .returned (.tuple #[.pointer none, .iface 81 (.pointer (some ⟨k, 0, none⟩))]) ∧ Φ k w' ∧ Below w.heap.size w w'))
    (HT : Hid (∀ k w1, Φ k w1 → Below w.heap.size w w1 → Calls Tryz.prog 13 #[.iface 81 (.pointer (some ⟨k, 0, none⟩))] w1 fun x w' => x = .returned (.agg #[.int .i64 c, .int .i64 p, .int .i64 3]) ∧ Below w1.heap.size w1 w'))
    (HA : Hid (∀ X, Below w.heap.size w X → Calls Tryz.prog 14 #[] X fun x w' => x = .returned (.bool true) ∧ Below X.heap.size X w')) :
    Calls Tryz.prog 10 #[.slice ad n cap, (.bool false)] w fun x w' => x = .returned (.bool true) ∧ Below w.heap.size w w' := by
  have hp0 : ¬ (p : Int) < 0 := by omega
  have hp1 : (p : Int) ≤ (n : Int) := by omega
  have hp2 : (0 : Int) ≤ (p : Int) := by omega
  have hc0 : ¬ (c : Int) = 22 := by omega
  have hc1 : ((c : Int) == 22) = false := by simp; omega
  have hd0 : decide ((c : Int) = 22) = false := decide_eq_false hc0
  have hd1 : decide (¬ (c : Int) = 22) = true := decide_eq_true hc0
  have hd2 : ((c : Int) != 22) = true := by simp; omega
  have hd3 : ¬ c = 22 := hc
  have h2 : (((c : Int) == 2) = true ∧ decide ((c : Int) = 2) = true ∧ decide ((256 : Int) < (n : Int)) = true ∧ decide (256 < n) = true) ∨ (((c : Int) == 2) = false ∧ decide ((c : Int) = 2) = false ∧ decide ((256 : Int) < (n : Int)) = false ∧ decide (256 < n) = false) := by
    by_cases h : 256 < n
    · have := hl.2 h
      exact Or.inl ⟨by simp; omega, decide_eq_true (by omega), decide_eq_true (by omega), decide_eq_true h⟩
    · have h2 : c ≠ 2 := fun e => h (hl.1 e)
      exact Or.inr ⟨by simp; omega, decide_eq_false (by omega), decide_eq_false (by omega), decide_eq_false h⟩
  clear hl hc hc0
  rcases h2 with ⟨h1, h2, h3, h4⟩ | ⟨h1, h2, h3, h4⟩
  all_goals
    go_enter Tryz.func10, Tryz.ntmps10
    go_wp2_with fail
    refine HP.out.mono ?_
    rintro x w1 ⟨k, rfl, hΦ, hb1⟩
    have HT1 := Lib.hid (HT.out k w1 hΦ hb1)
    have HB1 := Lib.hid hb1
    clear hΦ hb1
    go_wp2_with fail
    refine HT1.out.mono ?_
    rintro x w2 ⟨rfl, hb2⟩
    have HB2 := Lib.hid (below_thn HB1.out (Nat.le_refl _) hb2)
    clear hb2
    go_upto_region 3 with fail
    obtain ⟨w3, hw3⟩ : ∃ w3, w3 = w2.alloc (.cells #[.int .i64 c, .int .i64 p, .int .i64 3] 35) := ⟨_, rfl⟩
    rw [← hw3]
    have h3 : w3.heap[w2.heap.size]? = some (.cells #[.int .i64 c, .int .i64 p, .int .i64 3] 35 (0, 0)) := by rw [hw3]; exact alloc_last _ _
    have HB3 : Hid (Below w.heap.size w w3) := Lib.hid (by rw [hw3]; exact HB2.out.alloc HB2.out.size _)
    have y0 : w3.cell? ⟨w2.heap.size, 0, none⟩ = some (.int .i64 c) := (Lib.cell_of_heap h3 0).trans rfl
    have y1 : w3.cell? ⟨w2.heap.size, 1, none⟩ = some (.int .i64 p) := (Lib.cell_of_heap h3 1).trans rfl
    have y2 : w3.cell? ⟨w2.heap.size, 2, none⟩ = some (.int .i64 3) := (Lib.cell_of_heap h3 2).trans rfl
    have yz := lt_blkB h3
    clear hw3 h3
    have HA3 := Lib.hid (HA.out w3 HB3.out)
    go_wp2_with fail
    refine HA3.out.mono ?_
    rintro x w4 ⟨rfl, hb4⟩
    have HZ := Lib.hid (below_thn HB3.out (Nat.le_refl _) hb4)
    clear hb4
    go_wp2
    go_ret
    exact ⟨rfl, HZ.out⟩
theorem field_kd (n : Nd) (a : Option Addr) (m c : Nat) (w : World) : (Instr.field 33 (n.v (.slice a m c)) 0).run Tryz.prog w = .ok (.int .i64 n.kd) w := by unfold Nd.v Nd.cells; kernel_rfl
set_option maxRecDepth 100000 in
set_option maxHeartbeats 16000000 in
theorem rpl_ok (w : World) (ad : Option Addr) (n cap : Nat) (ext : Bool) (t : Nd) (g : Nat) (hn : 0 < n) (hg : g ≤ 9) (ht : 1 ≤ t.kd)
    (HP : Hid (Calls Tryz.prog 11 #[.slice ad n cap, .bool ext] w fun x w' => ∃ p, x = .returned (.tuple #[.pointer (some ⟨p, 0, none⟩), .nilIface]) ∧ Below w.heap.size w w' ∧ (∀ X, Below w'.heap.size w' X → Calls Tryz.prog 17 #[.pointer (some ⟨p, 0, none⟩)] X fun x w' => x = .returned (.int .i64 g) ∧ w' = X) ∧ (∀ X, Below w'.heap.size w' X → Calls Tryz.prog 19 #[.pointer (some ⟨p, 0, none⟩)] X (ClP t X))))
    (HA : Hid (∀ X, Below w.heap.size w X → Calls Tryz.prog 14 #[] X fun x w' => x = .returned (.bool true) ∧ Below X.heap.size X w')) :
    Calls Tryz.prog 10 #[.slice ad n cap, .bool ext] w fun x w' => x = .returned (.bool true) ∧ Below w.heap.size w w' := by
  have hn1 : (0 : Int) < (n : Int) := by omega
  have hg1 : (g : Int) ≤ 9 := by omega
  have HF := fun a m c w => field_kd t a m c w
  unfold ClP at HP
  go_enter Tryz.func10, Tryz.ntmps10
  go_wp2_with fail
  refine HP.out.mono ?_
  rintro x w1 ⟨k, rfl, hb1, hgr, htr⟩
  have HG := Lib.hid hgr
  have HT := Lib.hid htr
  have HB1 := Lib.hid hb1
  clear hb1 hgr htr
  go_wp2_with fail
  refine (tell_nil w1).mono ?_
  rintro x w2 ⟨rfl, hb2⟩
  have HB2 := Lib.hid hb2
  clear hb2
  go_upto_region 3 with fail
  obtain ⟨w3, hw3⟩ : ∃ w3, w3 = w2.alloc (.cells #[.int .i64 0, .int .i64 0, .int .i64 0] 35) := ⟨_, rfl⟩
  rw [← hw3]
  have HB3 : Hid (Below w1.heap.size w1 w3) := Lib.hid (by rw [hw3]; exact HB2.out.alloc HB2.out.size _)
  clear hw3
  have HG3 := Lib.hid (HG.out w3 HB3.out)
  go_wp2_with fail
  refine HG3.out.mono ?_
  rintro x w4 ⟨rfl, rfl⟩
  have HT4 := Lib.hid (HT.out w4 HB3.out)
  go_wp2_with fail
  refine HT4.out.mono ?_
  rintro x w5 ⟨ta, tm, tc, rfl, _, hb5⟩
  have HB5 := Lib.hid (below_thn HB1.out (Nat.le_refl _) (below_thn HB3.out (Nat.le_refl _) hb5))
  clear hb5
  go_wp2_with fail
  refine (HA.out _ HB5.out).mono ?_
  rintro x w6 ⟨rfl, hb6⟩
  have HZ := Lib.hid (below_thn HB5.out (Nat.le_refl _) hb6)
  clear hb6
  go_wp2
  go_ret
  exact ⟨rfl, HZ.out⟩
theorem snt_es {w : World} {e : Nat → Addr} (h : Snt w e) : Es w w.heap.size e := ⟨h.var, by have := h.low; omega, Nat.le_refl _⟩
/-- What Tell says of an error that Parse told. -/
theorem tell_errS {e : Nat → Addr} {lg : Int} {c : Nat} {p : Int} {v : Value} {B : Nat} {w : World} (hs : Snt w e) (h1 : 1 ≤ c) (h2 : c ≤ 21) (her : ErrS w B e lg c p v) :
    Calls Tryz.prog 13 #[v] w fun x w' => x = .returned (.agg #[.int .i64 c, .int .i64 p, .int .i64 lg]) ∧ Below w.heap.size w w' := by
  have := tell_any [(true, lg), (false, p)] v (e c) e c w hs (hs.rt c h1 h2) her.chn
  simpa [firstOf] using this
theorem parse_codes {cf : ByteArray → (Nat → Bool) × Bool} {l : List Int} {ext : Bool} {n c p : Nat} (h : parseN cf l ext n = some (.bad c p)) : 1 ≤ c ∧ c ≤ 10 ∧ p ≤ l.length ∧ (c = 2 ↔ 256 < l.length) := by
  rcases parseN_pos h with ⟨rfl, rfl, h3⟩ | ⟨h1, h2, h3⟩
  · exact ⟨by omega, by omega, by omega, fun _ => h3, fun _ => rfl⟩
  · exact ⟨by omega, by omega, h3, fun e => by omega, fun e => by omega⟩
theorem rplaces_any (cf : ByteArray → (Nat → Bool) × Bool) (hcf : ClassOk cf) (e : Nat → Addr) (w : World) (v0 : Value) (l : List Int) (ext : Bool) (hs : Sl w v0 l) (hnb : ∀ x o n cap, v0 = .slice (some ⟨x, o, none⟩) n cap → x < w.heap.size) (hsn : Snt w e) (ht : Ety w) (hT : TZ w) (hD : DB w) (hP : TPr w) :
    Calls Tryz.prog 10 #[v0, .bool ext] w fun x w' => x = .returned (.bool true) ∧ Below w.heap.size w w' := by
  have he := snt_es hsn
  have HA : Hid (∀ X, Below w.heap.size w X → Calls Tryz.prog 14 #[] X fun x w' => x = .returned (.bool true) ∧ Below X.heap.size X w') := Lib.hid (fun X hX => awake8_any cf hcf e X ⟨(he.below hX).var, Nat.lt_of_lt_of_le he.low hX.size, Nat.le_refl _⟩ (ht.below hX) (hT.below hX) (hD.below hX) (hP.below hX))
  obtain ⟨r, hr⟩ := parseN_some cf l ext
  have hpa := parse_any cf hcf e v0 l ext _ r w he ht hs hnb hr
  obtain ⟨ad, cap, rfl⟩ := sl_shapeL hs
  cases r with
  | bad c p =>
    obtain ⟨h1, h2, h3, h4⟩ := parse_codes hr
    cases ext
    · refine rpl_bad3 w ad l.length cap c p (fun k w' => ErrS w' 0 e 3 c p (.iface 81 (.pointer (some ⟨k, 0, none⟩)))) h3 (by omega) h4 (Lib.hid hpa) (Lib.hid fun k w1 hk hb => ?_) HA
      exact tell_errS (hsn.below hb) h1 (by omega) hk
    · refine rpl_bad4 w ad l.length cap c p (fun k w' => ErrS w' 0 e 4 c p (.iface 81 (.pointer (some ⟨k, 0, none⟩)))) h3 (by omega) h4 (Lib.hid hpa) (Lib.hid fun k w1 hk hb => ?_) HA
      exact tell_errS (hsn.below hb) h1 (by omega) hk
  | ok t k g =>
    obtain ⟨h1, h2, h3, h4, h5⟩ := parseN_ok hr
    have hf := parseN_fit hs.1 hr
    have hsz : t.sz ≤ 1000000 := by have := hf.2; omega
    refine rpl_ok w ad l.length cap ext t g ?_ h5 h4 (Lib.hid (hpa.mono ?_)) HA
    · rcases Nat.eq_zero_or_pos l.length with h | h
      · have : l = [] := List.length_eq_zero_iff.1 h
        subst this
        exact absurd hr (parseN_nil cf ext _ t k g)
      · exact h
    · rintro x w' ⟨p, a, m, c, rfl, hp, hrow, hin, hb⟩
      refine ⟨p, rfl, hb, fun X hX => ?_, fun X hX => ?_⟩
      · exact Groups_at X p t (.slice a m c) g ext (blk_below hrow hX)
      · exact Tree_at (fun b => w.heap.size ≤ b) X p t (.slice a m c) g ext (blk_below hrow hX) hsz (hin.below hX)
end Go.Proofs.YtlkcopjjeknbkaaGreatDoor
/- The laws over bytes opened: where a slice that comes in lies; RetextPlaces. -/
namespace Go.Proofs.YtlkcopjjeknbkaaGreatDoor
open Go.RowKit

set_option maxRecDepth 100000 in
theorem okw_block {W : World} {base : Nat} {v : Value} (k0 : Value.okWide Tryz.prog W .any base 22 v) : ∀ x o n cap, v = .slice (some ⟨x, o, none⟩) n cap → x < W.heap.size := by
  intro x o n cap e
  subst e
  simp only [Value.okWide, Tryz.underlying22, Cell.okWide, Cell.ok] at k0
  obtain ⟨_, _, _, _, row, cells, hs, _⟩ := k0
  unfold World.shape? at hs
  cases h : W.heap[x]? with
  | none => simp [h] at hs
  | some o => exact (Array.getElem?_eq_some_iff.1 h).1
set_option maxRecDepth 100000 in
theorem retextPlaces_open {H : Type} {enc : TypeId × Value → H} {d0 d1 : DataW H} {p0 p1 : List MemPlace} {q : Prop} (W : World) (base : Nat) (v0 v1 : Value)
    (h0 : DataW.Trod enc Tryz.prog W 0 (fun _ => true) true 22 v0 d0 p0) (h1 : DataW.Trod enc Tryz.prog W 0 (fun _ => true) true 4 v1 d1 p1)
    (k0 : Value.okWide Tryz.prog W .any base 22 v0) (k1 : Value.okWide Tryz.prog W .any base 4 v1) (_ : q)
    (hL : laidMetH Tryz.prog Rows.retextPlacesRow.laid W) :
    Calls Tryz.prog 10 #[v0, v1] W fun e W' => e = .returned (.bool true) ∧ Below W.heap.size W W' := by
  obtain ⟨g, rfl, rfl, _⟩ := RowKit.open_bool Tryz.underlying4 k1 h1
  obtain ⟨l0, hs0, _⟩ := sl_of_w k0 h0
  obtain ⟨_, _, ⟨e, hsn⟩, ht, hT, hD, hP⟩ := re_of_laid (by kernel_rfl) (by kernel_rfl) (by kernel_rfl) (by kernel_rfl) hL
  obtain ⟨cf, hcf⟩ := classes_ok
  exact rplaces_any cf hcf e W v0 l0 g hs0 (okw_block k0) hsn ht hT hD hP
end Go.Proofs.YtlkcopjjeknbkaaGreatDoor
