/- The reader's bracket: any parts, turned or not (gen_brx.py). -/
import Derived.Test.YtopnckfmdjhbjaaDoorSePax
import Derived.Test.YtopnckfmdjhbjaaDoorSeBra
namespace Go.Proofs.YtopnckfmdjhbjaaDoor
open Go.RowKit

/-- What a bracket is. -/
inductive BR where
  | bad (code pos : Nat)
  | ok (p : Nat → Bool) (next : Nat)
def brkL (cf : ByteArray → (Nat → Bool) × Bool) (s : ByteArray) (glob : Bool) : Nat → Nat → Bool → (Nat → Bool) → BR
  | 0, _, _, _ => .bad 0 0
  | n + 1, k, first, p =>
    if first = false ∧ atB s k = 93 then .ok p (k + 1) else
      match partR cf s glob k with
      | .bad c pos => .bad c pos
      | .ok q nx => brkL cf s glob n nx false (orP p q)
def brkT (t : Bool) : BR → BR
  | .bad c pos => .bad c pos
  | .ok p nx => .ok (if t then notP p else p) nx
def brkR (cf : ByteArray → (Nat → Bool) × Bool) (s : ByteArray) (glob : Bool) (k : Nat) : BR :=
  if atB s k = 94 ∨ (glob = true ∧ atB s k = 33) then brkT true (brkL cf s glob (s.size + 1 - (k + 1)) (k + 1) true noP)
  else brkT false (brkL cf s glob (s.size + 1 - k) k true noP)
theorem itemR_next {cf : ByteArray → (Nat → Bool) × Bool} {s : ByteArray} {g : Bool} {k : Nat} {p : Nat → Bool} {nx : Nat} (h : itemR cf s g k = .cls p nx) : nx ≤ s.size ∧ k < nx := by
  unfold itemR at h
  split at h
  · rename_i hc
    split at h
    · cases h
    · rename_i y hy
      split at h
      · cases h
        have key : ∀ n j, cnE s n j = some y → j ≤ y ∧ y + 2 ≤ s.size := by
          intro n
          induction n with
          | zero => intro j h; cases h
          | succ n ih =>
            intro j h
            unfold cnE at h
            split at h
            · rename_i hh
              have e := Option.some.inj h
              have := atB_in (s := s) (k := j + 1) (by rw [hh.2]; decide)
              omega
            · have := ih _ h; omega
        have := key _ _ hy
        omega
      · cases h
  · split at h
    · cases h
    · split at h
      · split at h <;> cases h
      · split at h <;> cases h
theorem partR_next {cf : ByteArray → (Nat → Bool) × Bool} {s : ByteArray} {g : Bool} {k : Nat} {p : Nat → Bool} {nx : Nat} (h : partR cf s g k = .ok p nx) : nx ≤ s.size ∧ k < nx := by
  unfold partR at h
  cases h1 : itemR cf s g k with
  | bad pos => rw [h1] at h; cases h
  | cls q n1 => rw [h1] at h; cases h; exact itemR_next h1
  | byt c n1 =>
    rw [h1] at h
    have b1 := (itemR_byte h1).2
    simp only at h
    split at h
    · cases h2 : itemR cf s g (n1 + 1) with
      | bad pos => rw [h2] at h; cases h
      | cls q n2 => rw [h2] at h; cases h
      | byt d n2 =>
        rw [h2] at h
        have b2 := (itemR_byte h2).2
        simp only at h
        split at h
        · cases h
        · cases h; omega
    · cases h; exact b1
theorem itemR_end {cf : ByteArray → (Nat → Bool) × Bool} {s : ByteArray} {g : Bool} {k : Nat} (h : s.size ≤ k) : itemR cf s g k = .bad k := by
  have h0 := atB_out h
  unfold itemR
  rw [if_neg (fun h => by rw [h0] at h; exact absurd h.1 (by decide)), if_neg (fun h => by rw [h0] at h; exact absurd h.1 (by decide)), if_neg (fun h => by rw [h0] at h; exact absurd h.2 (by decide)), if_neg (by omega)]
theorem brkL_fuel (cf : ByteArray → (Nat → Bool) × Bool) (s : ByteArray) (g : Bool) : ∀ (n m k : Nat) (f : Bool) (p : Nat → Bool), s.size + 1 - k ≤ n → s.size + 1 - k ≤ m → 1 ≤ n → 1 ≤ m → brkL cf s g n k f p = brkL cf s g m k f p := by
  intro n
  induction n with
  | zero => intro m k f p _ _ h; omega
  | succ n ih =>
    intro m k f p h1 h2 _ h4
    obtain ⟨m, rfl⟩ : ∃ j, m = j + 1 := ⟨m - 1, by omega⟩
    unfold brkL
    split
    · rfl
    · cases hp : partR cf s g k with
      | bad c pos => rfl
      | ok q nx =>
        have := partR_next hp
        simp only
        exact ih m nx false _ (by omega) (by omega) (by omega) (by omega)
theorem brkL_step {cf : ByteArray → (Nat → Bool) × Bool} {s : ByteArray} {g : Bool} {k : Nat} {f : Bool} {p q : Nat → Bool} {nx : Nat} (hk : k ≤ s.size) (hf : ¬ (f = false ∧ atB s k = 93)) (h : partR cf s g k = .ok q nx) :
    brkL cf s g (s.size + 1 - k) k f p = brkL cf s g (s.size + 1 - nx) nx false (orP p q) := by
  have := partR_next h
  obtain ⟨n, hn⟩ : ∃ n, s.size + 1 - k = n + 1 := ⟨s.size - k, by omega⟩
  rw [hn]
  conv => lhs; unfold brkL
  rw [if_neg hf, h]
  exact brkL_fuel cf s g _ _ _ _ _ (by omega) (by omega) (by omega) (by omega)
theorem brkL_bad {cf : ByteArray → (Nat → Bool) × Bool} {s : ByteArray} {g : Bool} {k : Nat} {f : Bool} {p : Nat → Bool} {c pos : Nat} (hk : k ≤ s.size) (hf : ¬ (f = false ∧ atB s k = 93)) (h : partR cf s g k = .bad c pos) :
    brkL cf s g (s.size + 1 - k) k f p = .bad c pos := by
  obtain ⟨n, hn⟩ : ∃ n, s.size + 1 - k = n + 1 := ⟨s.size - k, by omega⟩
  rw [hn]
  unfold brkL
  rw [if_neg hf, h]
theorem brkL_ok {cf : ByteArray → (Nat → Bool) × Bool} {s : ByteArray} {g : Bool} {k : Nat} {p : Nat → Bool} (hk : k ≤ s.size) (h : atB s k = 93) :
    brkL cf s g (s.size + 1 - k) k false p = .ok p (k + 1) := by
  obtain ⟨n, hn⟩ : ∃ n, s.size + 1 - k = n + 1 := ⟨s.size - k, by omega⟩
  rw [hn]
  unfold brkL
  rw [if_pos ⟨rfl, h⟩]
def BrkPost (r : BR) (e : Nat → Addr) (cb : Nat) (s : ByteArray) (ah : Nat) (lg : Int) (w : World) (x : Ending) (w' : World) : Prop :=
  match r with
  | .ok p nx => x = .returned (.tuple #[SV p, .nilIface]) ∧ Mv cb s nx w w'
  | .bad c pos => ∃ v k', x = .returned (.tuple #[SV noP, v]) ∧ Mv cb s k' w w' ∧ ErrS w' (w.heap.size + 1) e lg c (ah + pos : Nat) v

theorem blk_put {V : World} {b : Nat} {p : Nat → Bool} (q : Nat → Bool) {t : TypeId} (h : V.heap[b]? = some (.cells #[.int .u64 (sw p 0 : Nat), .int .u64 (sw p 1 : Nat), .int .u64 (sw p 2 : Nat), .int .u64 (sw p 3 : Nat)] t)) :
    ((((V.setCell ⟨b, 0, none⟩ (.int .u64 (sw q 0 : Nat))).setCell ⟨b, 1, none⟩ (.int .u64 (sw q 1 : Nat))).setCell ⟨b, 2, none⟩ (.int .u64 (sw q 2 : Nat))).setCell ⟨b, 3, none⟩ (.int .u64 (sw q 3 : Nat))).heap[b]? = some (.cells #[.int .u64 (sw q 0 : Nat), .int .u64 (sw q 1 : Nat), .int .u64 (sw q 2 : Nat), .int .u64 (sw q 3 : Nat)] t) := by
  have st : ∀ (X : World) (cs : Array Value) (i : Nat) (v : Value), X.heap[b]? = some (.cells cs t) → (X.setCell ⟨b, i, none⟩ v).heap[b]? = some (.cells (cs.setIfInBounds i v) t) := fun X cs i v hx => by
    show (X.heap.modify b _)[b]? = _
    rw [Array.getElem?_modify, if_pos rfl, hx]
    rfl
  have := st _ _ 3 (.int .u64 (sw q 3 : Nat)) (st _ _ 2 (.int .u64 (sw q 2 : Nat)) (st _ _ 1 (.int .u64 (sw q 1 : Nat)) (st _ _ 0 (.int .u64 (sw q 0 : Nat)) h)))
  simpa using this

set_option maxRecDepth 100000 in
set_option maxHeartbeats 16000000 in
theorem brk_hat (cf : ByteArray → (Nat → Bool) × Bool) (hcf : ClassOk cf) (e : Nat → Addr) (rb cb : Nat) (s : ByteArray) (k ah : Nat) (lg : Int) (hb47 : s.size ≤ 140737488351232) (w : World) (he : Es w cb e) (h : Rdr w rb cb s k ah lg) (h1 : atB s k = 94) (hk0 : (k + 1) ≤ s.size) :
    Calls Tryd.prog 54 #[.pointer (some ⟨rb, 0, none⟩)] w (BrkPost (brkT true (brkL cf s (decide (lg = 2)) (s.size + 1 - (k + 1)) (k + 1) true noP)) e cb s ah lg w) := by
  have HH := Lib.hid h
  have HE := Lib.hid he
  have HT1 : Hid (∀ w', Cur w' cb s k → Calls Tryd.prog 78 #[.pointer (some ⟨cb, 0, none⟩), .string ⟨#[94]⟩] w' fun e w'' => e = .returned (.bool true) ∧ Mv cb s (k + 1) w' w'') := Lib.hid fun w' h' => take1_yes cb k s 94 w' h' (by decide) h1
  have HPA : Hid (∀ (j : Nat) (w' : World), Rdr w' rb cb s j ah lg → Es w' cb e → Calls Tryd.prog 79 #[.pointer (some ⟨rb, 0, none⟩)] w' (PartPost cf e cb s j ah lg w')) := Lib.hid fun j w' h' e' => part_any cf hcf e rb cb s j ah lg hb47 w' e' h'
  clear h he h1
  obtain ⟨r0, r1, r2, rz⟩ := HH.out.facts
  go_enter Tryd.func54, Tryd.ntmps54
  go_wp2_with fail
  obtain ⟨W, hW⟩ : ∃ W, W = w.alloc (.cells #[.int .u64 0, .int .u64 0, .int .u64 0, .int .u64 0] 53) := ⟨_, rfl⟩
  rw [← hW]
  have HMW : Hid (Mv cb s k w W) := Lib.hid (by rw [hW]; exact Mv.below HH.out.2.1 ((Below.refl _ _).alloc (Nat.le_refl _) _))
  have HG0 : Hid (W.heap[w.heap.size]? = some (.cells #[.int .u64 0, .int .u64 0, .int .u64 0, .int .u64 0] 53)) := Lib.hid (by rw [hW]; exact alloc_last w _)
  have hsz : w.heap.size < W.heap.size := by rw [hW]; simp
  clear hW r0 r1 r2 rz
  have hcb := HH.out.lt.2
  have HR0 := Lib.hid (HH.out.mv HMW.out)
  have HM0 := Lib.hid (Mv.refl HR0.out.2.1)
  have HE0 := Lib.hid (HE.out.below HMW.out.1)
  refine (HT1.out _ HR0.out.2.1).mono ?_
  rintro e' w1 ⟨rfl, hm1⟩
  have HM1 := Lib.hid (HM0.out.trans hm1)
  have HR1 := Lib.hid (HR0.out.mv HM1.out)
  obtain ⟨a10, a11, a12, a1z⟩ := HR1.out.facts
  clear hm1
  have HX : Hid (W.heap.size ≤ w1.heap.size) := Lib.hid HM1.out.1.size
  have hcb1 : cb < w1.heap.size := HR1.out.lt.2
  have hg1 : w.heap.size < w1.heap.size := Nat.lt_of_lt_of_le hsz HX.out
  have HG1 := Lib.hid ((HM1.out.2.2 w.heap.size hsz (by omega)).trans HG0.out)
  have HMQ := Lib.hid (HMW.out.trans HM1.out)
  have HEQ := Lib.hid (HE0.out.below HM1.out.1)
  generalize hR : brkL cf s (decide (lg = 2)) (s.size + 1 - (k + 1)) (k + 1) true noP = R
  have HRR := Lib.hid hR
  clear hR
  go_wp2_with fail
  go_loopw [6] (fun f wr => ∃ (j : Nat) (p : Nat → Bool) (fb : Bool), f = .bool fb ∧ Mv cb s j w1 wr ∧ wr.heap[w1.heap.size]? = some (.cells #[.int .u64 (sw p 0 : Nat), .int .u64 (sw p 1 : Nat), .int .u64 (sw p 2 : Nat), .int .u64 (sw p 3 : Nat)] 53) ∧ brkL cf s (decide (lg = 2)) (s.size + 1 - j) j fb p = R) (fun _ wr => match wr.cell? ⟨cb, 1, none⟩ with | some (.int _ n) => s.size + 1 - n.toNat | _ => 0)
  case atStart =>
    refine ⟨(k + 1), noP, true, rfl, Mv.below HR1.out.2.1 ((Below.refl _ _).alloc (Nat.le_refl _) _), ?_, HRR.out⟩
    rw [item_no.1, item_no.2.1, item_no.2.2.1, item_no.2.2.2]
    exact alloc_last _ _
  case round =>
    obtain ⟨j, p, fb, rfl, hmv, hs, hbr⟩ := hrel
    have HM := Lib.hid hmv
    have HS := Lib.hid hs
    have HBR := Lib.hid hbr
    have HRj := Lib.hid (HR1.out.mv hmv)
    have HEj := Lib.hid (HEQ.out.below hmv.1)
    have hjs := hmv.2.1.2.1
    have HC1 := Lib.hid hmv.cur.facts.2.1
    obtain ⟨q0, q1, q2, qz⟩ := HRj.out.facts
    obtain ⟨⟨s0, s1, s2, s3⟩, ⟨f0, f1, f2, f3⟩, fz⟩ := cells4 hs
    clear hmv hs hbr
    cases fb with
    | true =>
      have HPj := Lib.hid (HPA.out j wr HRj.out HEj.out)
      cases hpr : partR cf s (decide (lg = 2)) j with
      | bad c pos =>
        have HB : Hid (R = .bad c pos) := Lib.hid (HBR.out.symm.trans (brkL_bad hjs (by simp) hpr))
        unfold PartPost at HPj
        rw [hpr] at HPj
        simp only at HPj
        clear hpr
        go_wp2_with fail
        refine HPj.out.mono ?_
        rintro e' wb ⟨v, k', rfl, hmb, her⟩
        have HMb := Lib.hid (HM.out.trans hmb)
        have HER := Lib.hid her
        obtain ⟨kk, rfl⟩ := her.iface
        have hzb : w.heap.size < wb.heap.size := Nat.lt_of_lt_of_le hg1 HMb.out.1.size
        have hzw : w.heap.size ≤ wr.heap.size := Nat.le_trans (Nat.le_of_lt hg1) HM.out.1.size
        have hg := (HMb.out.2.2 w.heap.size hg1 (by omega)).trans HG1.out
        obtain ⟨⟨c0, c1, c2, c3⟩, ⟨g0, g1, g2, g3⟩, hgz⟩ := cells4 hg
        clear hmb her hg
        unfold SV
        go_wp2
        refine bodyPost_ret (by simp [results, Tryd.results54, go_sem, c0, c1, c2, c3, hgz]; rfl) rfl ?_
        rw [HRR.out, HB.out]
        refine ⟨_, _, by unfold SV; rw [item_no.1, item_no.2.1, item_no.2.2.1, item_no.2.2.2], Mv.alo (Mv.setOther (Mv.setOther (Mv.setOther (Mv.setOther (HMQ.out.trans HMb.out) w.heap.size 0 _ (Nat.le_refl _) hcb) w.heap.size 1 _ (Nat.le_refl _) hcb) w.heap.size 2 _ (Nat.le_refl _) hcb) w.heap.size 3 _ (Nat.le_refl _) hcb) _, ?_⟩
        exact ErrS.below (ErrS.set (ErrS.set (ErrS.set (ErrS.set (HER.out.lower (by omega)) w.heap.size 0 _ (by omega)) w.heap.size 1 _ (by omega)) w.heap.size 2 _ (by omega)) w.heap.size 3 _ (by omega)) ((Below.refl _ _).alloc (Nat.le_refl _) _)
      | ok q nx =>
        have HB : Hid (brkL cf s (decide (lg = 2)) (s.size + 1 - nx) nx false (orP p q) = R) := Lib.hid ((brkL_step hjs (by simp) hpr).symm.trans HBR.out)
        have hnx := partR_next hpr
        unfold PartPost at HPj
        rw [hpr] at HPj
        simp only at HPj
        clear hpr
        go_wp2_with fail
        refine HPj.out.mono ?_
        rintro e' wb ⟨rfl, hmb⟩
        have HMb := Lib.hid (HM.out.trans hmb)
        have hsb := (hmb.2.2 w1.heap.size fz (by omega)).trans HS.out
        clear hmb
        obtain ⟨⟨t0, t1, t2, t3⟩, ⟨u0, u1, u2, u3⟩, uz⟩ := cells4 hsb
        have HSb := Lib.hid hsb
        clear hsb
        unfold SV
        go_wp2_with fail
        have HU := Lib.hid (unionL (wb.alloc (.cells #[.int .u64 (sw q 0 : Nat), .int .u64 (sw q 1 : Nat), .int .u64 (sw q 2 : Nat), .int .u64 (sw q 3 : Nat)] 53)) p q 53)
        simp only [World.size_alloc] at HU
        refine HU.out.mono ?_
        rintro e' wc ⟨rfl, hbc⟩
        have HMc := Lib.hid (HMb.out.trans (Mv.below HMb.out.2.1 (((Below.refl _ _).alloc (Nat.le_refl _) _).trans (hbc.mono (by simp)))))
        have hsc : wc.heap[w1.heap.size]? = some (.cells #[.int .u64 (sw p 0 : Nat), .int .u64 (sw p 1 : Nat), .int .u64 (sw p 2 : Nat), .int .u64 (sw p 3 : Nat)] 53) := (hbc.block _ (by omega)).trans ((Below.heap_alloc _ _ _ uz).trans HSb.out)
        clear hbc
        obtain ⟨⟨v0, v1, v2, v3⟩, ⟨x0, x1, x2, x3⟩, xz⟩ := cells4 hsc
        have HSc := Lib.hid hsc
        clear hsc
        unfold SV
        go_wp2_with fail
        skip
        refine ⟨⟨nx, orP p q, false, rfl, (Mv.setOther (Mv.setOther (Mv.setOther (Mv.setOther HMc.out w1.heap.size 0 _ (Nat.le_refl _) hcb1) w1.heap.size 1 _ (Nat.le_refl _) hcb1) w1.heap.size 2 _ (Nat.le_refl _) hcb1) w1.heap.size 3 _ (Nat.le_refl _) hcb1), blk_put (orP p q) HSc.out, HB.out⟩, ?_⟩
        rw [((Mv.setOther (Mv.setOther (Mv.setOther (Mv.setOther HMc.out w1.heap.size 0 _ (Nat.le_refl _) hcb1) w1.heap.size 1 _ (Nat.le_refl _) hcb1) w1.heap.size 2 _ (Nat.le_refl _) hcb1) w1.heap.size 3 _ (Nat.le_refl _) hcb1)).cur.facts.2.1, HC1.out]
        simp only
        omega
    | false =>
      by_cases h93 : atB s j = 93
      · have HT9 := Lib.hid (take1_yes cb j s 93 wr HRj.out.2.1 (by decide) h93)
        have HB : Hid (R = .ok p (j + 1)) := Lib.hid (HBR.out.symm.trans (brkL_ok hjs h93))
        go_wp2_with fail
        refine HT9.out.mono ?_
        rintro e' wk ⟨rfl, hmk⟩
        have HMk := Lib.hid (HM.out.trans hmk)
        have hsk := (hmk.2.2 w1.heap.size fz (by omega)).trans HS.out
        have HSk := Lib.hid hsk
        obtain ⟨⟨t0, t1, t2, t3⟩, ⟨u0, u1, u2, u3⟩, uz⟩ := cells4 hsk
        clear hmk hsk
        have HNO : ∀ w, Hid (Calls Tryd.prog 81 #[.agg #[.int .u64 (sw p 0 : Nat), .int .u64 (sw p 1 : Nat), .int .u64 (sw p 2 : Nat), .int .u64 (sw p 3 : Nat)]] w fun e w' => e = .returned (SV (notP p)) ∧ Below w.heap.size w w') := fun w => Lib.hid (not_any p w)
        go_wp2_with fail
        refine (HNO _).out.mono ?_
        rintro e' wl ⟨rfl, hbl⟩
        have HMl := Lib.hid (HMk.out.trans (Mv.below HMk.out.2.1 hbl))
        have hsl := (hbl.block _ uz).trans HSk.out
        obtain ⟨⟨v0, v1, v2, v3⟩, ⟨x0, x1, x2, x3⟩, xz⟩ := cells4 hsl
        have hg := (HMl.out.2.2 w.heap.size hg1 (by omega)).trans HG1.out
        obtain ⟨⟨c0, c1, c2, c3⟩, ⟨g0, g1, g2, g3⟩, hgz⟩ := cells4 hg
        clear hbl hsl hg
        unfold SV
        go_wp2
        refine bodyPost_ret (by simp [results, Tryd.results54, go_sem, c0, c1, c2, c3]; rfl) rfl ?_
        rw [HRR.out, HB.out]
        exact ⟨rfl, (Mv.setOther (Mv.setOther (Mv.setOther (Mv.setOther (HMQ.out.trans (Mv.setOther (Mv.setOther (Mv.setOther (Mv.setOther HMl.out w1.heap.size 0 _ (Nat.le_refl _) hcb1) w1.heap.size 1 _ (Nat.le_refl _) hcb1) w1.heap.size 2 _ (Nat.le_refl _) hcb1) w1.heap.size 3 _ (Nat.le_refl _) hcb1)) w.heap.size 0 _ (Nat.le_refl _) hcb) w.heap.size 1 _ (Nat.le_refl _) hcb) w.heap.size 2 _ (Nat.le_refl _) hcb) w.heap.size 3 _ (Nat.le_refl _) hcb)⟩
      · have HT9 := Lib.hid (take1_no cb j s 93 wr HRj.out.2.1 (by decide) h93)
        go_wp2_with fail
        refine HT9.out.mono ?_
        rintro e' wk ⟨rfl, hmk⟩
        have HMk := Lib.hid (HM.out.trans hmk)
        have HRk := Lib.hid (HRj.out.mv hmk)
        have HEk := Lib.hid (HEj.out.below hmk.1)
        have HSk := Lib.hid ((hmk.2.2 w1.heap.size fz (by omega)).trans HS.out)
        have fzk : w1.heap.size < wk.heap.size := Nat.lt_of_lt_of_le fz hmk.1.size
        clear hmk
        have HPj := Lib.hid (HPA.out j wk HRk.out HEk.out)
        cases hpr : partR cf s (decide (lg = 2)) j with
        | bad c pos =>
          have HB : Hid (R = .bad c pos) := Lib.hid (HBR.out.symm.trans (brkL_bad hjs (fun h => h93 h.2) hpr))
          unfold PartPost at HPj
          rw [hpr] at HPj
          simp only at HPj
          clear hpr
          go_wp2_with fail
          refine HPj.out.mono ?_
          rintro e' wb ⟨v, k', rfl, hmb, her⟩
          have HMb := Lib.hid (HMk.out.trans hmb)
          have HER := Lib.hid her
          obtain ⟨kk, rfl⟩ := her.iface
          have hzb : w.heap.size < wb.heap.size := Nat.lt_of_lt_of_le hg1 HMb.out.1.size
          have hzw : w.heap.size ≤ wk.heap.size := Nat.le_trans (Nat.le_of_lt hg1) HMk.out.1.size
          have hg := (HMb.out.2.2 w.heap.size hg1 (by omega)).trans HG1.out
          obtain ⟨⟨c0, c1, c2, c3⟩, ⟨g0, g1, g2, g3⟩, hgz⟩ := cells4 hg
          clear hmb her hg
          unfold SV
          go_wp2
          refine bodyPost_ret (by simp [results, Tryd.results54, go_sem, c0, c1, c2, c3, hgz]; rfl) rfl ?_
          rw [HRR.out, HB.out]
          refine ⟨_, _, by unfold SV; rw [item_no.1, item_no.2.1, item_no.2.2.1, item_no.2.2.2], Mv.alo (Mv.setOther (Mv.setOther (Mv.setOther (Mv.setOther (HMQ.out.trans HMb.out) w.heap.size 0 _ (Nat.le_refl _) hcb) w.heap.size 1 _ (Nat.le_refl _) hcb) w.heap.size 2 _ (Nat.le_refl _) hcb) w.heap.size 3 _ (Nat.le_refl _) hcb) _, ?_⟩
          exact ErrS.below (ErrS.set (ErrS.set (ErrS.set (ErrS.set (HER.out.lower (by omega)) w.heap.size 0 _ (by omega)) w.heap.size 1 _ (by omega)) w.heap.size 2 _ (by omega)) w.heap.size 3 _ (by omega)) ((Below.refl _ _).alloc (Nat.le_refl _) _)
        | ok q nx =>
          have HB : Hid (brkL cf s (decide (lg = 2)) (s.size + 1 - nx) nx false (orP p q) = R) := Lib.hid ((brkL_step hjs (fun h => h93 h.2) hpr).symm.trans HBR.out)
          have hnx := partR_next hpr
          unfold PartPost at HPj
          rw [hpr] at HPj
          simp only at HPj
          clear hpr
          go_wp2_with fail
          refine HPj.out.mono ?_
          rintro e' wb ⟨rfl, hmb⟩
          have HMb := Lib.hid (HMk.out.trans hmb)
          have hsb := (hmb.2.2 w1.heap.size fzk (by omega)).trans HSk.out
          clear hmb
          obtain ⟨⟨t0, t1, t2, t3⟩, ⟨u0, u1, u2, u3⟩, uz⟩ := cells4 hsb
          have HSb := Lib.hid hsb
          clear hsb
          unfold SV
          go_wp2_with fail
          have HU := Lib.hid (unionL (wb.alloc (.cells #[.int .u64 (sw q 0 : Nat), .int .u64 (sw q 1 : Nat), .int .u64 (sw q 2 : Nat), .int .u64 (sw q 3 : Nat)] 53)) p q 53)
          simp only [World.size_alloc] at HU
          refine HU.out.mono ?_
          rintro e' wc ⟨rfl, hbc⟩
          have HMc := Lib.hid (HMb.out.trans (Mv.below HMb.out.2.1 (((Below.refl _ _).alloc (Nat.le_refl _) _).trans (hbc.mono (by simp)))))
          have hsc : wc.heap[w1.heap.size]? = some (.cells #[.int .u64 (sw p 0 : Nat), .int .u64 (sw p 1 : Nat), .int .u64 (sw p 2 : Nat), .int .u64 (sw p 3 : Nat)] 53) := (hbc.block _ (by omega)).trans ((Below.heap_alloc _ _ _ uz).trans HSb.out)
          clear hbc
          obtain ⟨⟨v0, v1, v2, v3⟩, ⟨x0, x1, x2, x3⟩, xz⟩ := cells4 hsc
          have HSc := Lib.hid hsc
          clear hsc
          unfold SV
          go_wp2_with fail
          skip
          refine ⟨⟨nx, orP p q, false, rfl, (Mv.setOther (Mv.setOther (Mv.setOther (Mv.setOther HMc.out w1.heap.size 0 _ (Nat.le_refl _) hcb1) w1.heap.size 1 _ (Nat.le_refl _) hcb1) w1.heap.size 2 _ (Nat.le_refl _) hcb1) w1.heap.size 3 _ (Nat.le_refl _) hcb1), blk_put (orP p q) HSc.out, HB.out⟩, ?_⟩
          rw [((Mv.setOther (Mv.setOther (Mv.setOther (Mv.setOther HMc.out w1.heap.size 0 _ (Nat.le_refl _) hcb1) w1.heap.size 1 _ (Nat.le_refl _) hcb1) w1.heap.size 2 _ (Nat.le_refl _) hcb1) w1.heap.size 3 _ (Nat.le_refl _) hcb1)).cur.facts.2.1, HC1.out]
          simp only
          omega
set_option maxRecDepth 100000 in
set_option maxHeartbeats 16000000 in
theorem brk_plain (cf : ByteArray → (Nat → Bool) × Bool) (hcf : ClassOk cf) (e : Nat → Addr) (rb cb : Nat) (s : ByteArray) (k ah : Nat) (lg : Int) (hb47 : s.size ≤ 140737488351232) (w : World) (he : Es w cb e) (h : Rdr w rb cb s k ah lg) (hlg : ¬ lg = 2) (h1 : ¬ atB s k = 94) (hk0 : k ≤ s.size) :
    Calls Tryd.prog 54 #[.pointer (some ⟨rb, 0, none⟩)] w (BrkPost (brkT false (brkL cf s (decide (lg = 2)) (s.size + 1 - k) k true noP)) e cb s ah lg w) := by
  have HH := Lib.hid h
  have HE := Lib.hid he
  have HT1 : Hid (∀ w', Cur w' cb s k → Calls Tryd.prog 78 #[.pointer (some ⟨cb, 0, none⟩), .string ⟨#[94]⟩] w' fun e w'' => e = .returned (.bool false) ∧ Mv cb s k w' w'') := Lib.hid fun w' h' => take1_no cb k s 94 w' h' (by decide) h1
  have HPA : Hid (∀ (j : Nat) (w' : World), Rdr w' rb cb s j ah lg → Es w' cb e → Calls Tryd.prog 79 #[.pointer (some ⟨rb, 0, none⟩)] w' (PartPost cf e cb s j ah lg w')) := Lib.hid fun j w' h' e' => part_any cf hcf e rb cb s j ah lg hb47 w' e' h'
  clear h he h1
  obtain ⟨r0, r1, r2, rz⟩ := HH.out.facts
  go_enter Tryd.func54, Tryd.ntmps54
  go_wp2_with fail
  obtain ⟨W, hW⟩ : ∃ W, W = w.alloc (.cells #[.int .u64 0, .int .u64 0, .int .u64 0, .int .u64 0] 53) := ⟨_, rfl⟩
  rw [← hW]
  have HMW : Hid (Mv cb s k w W) := Lib.hid (by rw [hW]; exact Mv.below HH.out.2.1 ((Below.refl _ _).alloc (Nat.le_refl _) _))
  have HG0 : Hid (W.heap[w.heap.size]? = some (.cells #[.int .u64 0, .int .u64 0, .int .u64 0, .int .u64 0] 53)) := Lib.hid (by rw [hW]; exact alloc_last w _)
  have hsz : w.heap.size < W.heap.size := by rw [hW]; simp
  clear hW r0 r1 r2 rz
  have hcb := HH.out.lt.2
  have HR0 := Lib.hid (HH.out.mv HMW.out)
  have HM0 := Lib.hid (Mv.refl HR0.out.2.1)
  have HE0 := Lib.hid (HE.out.below HMW.out.1)
  refine (HT1.out _ HR0.out.2.1).mono ?_
  rintro e' w1 ⟨rfl, hm1⟩
  have HM1 := Lib.hid (HM0.out.trans hm1)
  have HR1 := Lib.hid (HR0.out.mv HM1.out)
  obtain ⟨a10, a11, a12, a1z⟩ := HR1.out.facts
  clear hm1
  have HX : Hid (W.heap.size ≤ w1.heap.size) := Lib.hid HM1.out.1.size
  have hcb1 : cb < w1.heap.size := HR1.out.lt.2
  have hg1 : w.heap.size < w1.heap.size := Nat.lt_of_lt_of_le hsz HX.out
  have HG1 := Lib.hid ((HM1.out.2.2 w.heap.size hsz (by omega)).trans HG0.out)
  have HMQ := Lib.hid (HMW.out.trans HM1.out)
  have HEQ := Lib.hid (HE0.out.below HM1.out.1)
  generalize hR : brkL cf s (decide (lg = 2)) (s.size + 1 - k) k true noP = R
  have HRR := Lib.hid hR
  clear hR
  go_wp2_with fail
  go_loopw [6] (fun f wr => ∃ (j : Nat) (p : Nat → Bool) (fb : Bool), f = .bool fb ∧ Mv cb s j w1 wr ∧ wr.heap[w1.heap.size]? = some (.cells #[.int .u64 (sw p 0 : Nat), .int .u64 (sw p 1 : Nat), .int .u64 (sw p 2 : Nat), .int .u64 (sw p 3 : Nat)] 53) ∧ brkL cf s (decide (lg = 2)) (s.size + 1 - j) j fb p = R) (fun _ wr => match wr.cell? ⟨cb, 1, none⟩ with | some (.int _ n) => s.size + 1 - n.toNat | _ => 0)
  case atStart =>
    refine ⟨k, noP, true, rfl, Mv.below HR1.out.2.1 ((Below.refl _ _).alloc (Nat.le_refl _) _), ?_, HRR.out⟩
    rw [item_no.1, item_no.2.1, item_no.2.2.1, item_no.2.2.2]
    exact alloc_last _ _
  case round =>
    obtain ⟨j, p, fb, rfl, hmv, hs, hbr⟩ := hrel
    have HM := Lib.hid hmv
    have HS := Lib.hid hs
    have HBR := Lib.hid hbr
    have HRj := Lib.hid (HR1.out.mv hmv)
    have HEj := Lib.hid (HEQ.out.below hmv.1)
    have hjs := hmv.2.1.2.1
    have HC1 := Lib.hid hmv.cur.facts.2.1
    obtain ⟨q0, q1, q2, qz⟩ := HRj.out.facts
    obtain ⟨⟨s0, s1, s2, s3⟩, ⟨f0, f1, f2, f3⟩, fz⟩ := cells4 hs
    clear hmv hs hbr
    cases fb with
    | true =>
      have HPj := Lib.hid (HPA.out j wr HRj.out HEj.out)
      cases hpr : partR cf s (decide (lg = 2)) j with
      | bad c pos =>
        have HB : Hid (R = .bad c pos) := Lib.hid (HBR.out.symm.trans (brkL_bad hjs (by simp) hpr))
        unfold PartPost at HPj
        rw [hpr] at HPj
        simp only at HPj
        clear hpr
        go_wp2_with fail
        refine HPj.out.mono ?_
        rintro e' wb ⟨v, k', rfl, hmb, her⟩
        have HMb := Lib.hid (HM.out.trans hmb)
        have HER := Lib.hid her
        obtain ⟨kk, rfl⟩ := her.iface
        have hzb : w.heap.size < wb.heap.size := Nat.lt_of_lt_of_le hg1 HMb.out.1.size
        have hzw : w.heap.size ≤ wr.heap.size := Nat.le_trans (Nat.le_of_lt hg1) HM.out.1.size
        have hg := (HMb.out.2.2 w.heap.size hg1 (by omega)).trans HG1.out
        obtain ⟨⟨c0, c1, c2, c3⟩, ⟨g0, g1, g2, g3⟩, hgz⟩ := cells4 hg
        clear hmb her hg
        unfold SV
        go_wp2
        refine bodyPost_ret (by simp [results, Tryd.results54, go_sem, c0, c1, c2, c3, hgz]; rfl) rfl ?_
        rw [HRR.out, HB.out]
        refine ⟨_, _, by unfold SV; rw [item_no.1, item_no.2.1, item_no.2.2.1, item_no.2.2.2], Mv.alo (Mv.setOther (Mv.setOther (Mv.setOther (Mv.setOther (HMQ.out.trans HMb.out) w.heap.size 0 _ (Nat.le_refl _) hcb) w.heap.size 1 _ (Nat.le_refl _) hcb) w.heap.size 2 _ (Nat.le_refl _) hcb) w.heap.size 3 _ (Nat.le_refl _) hcb) _, ?_⟩
        exact ErrS.below (ErrS.set (ErrS.set (ErrS.set (ErrS.set (HER.out.lower (by omega)) w.heap.size 0 _ (by omega)) w.heap.size 1 _ (by omega)) w.heap.size 2 _ (by omega)) w.heap.size 3 _ (by omega)) ((Below.refl _ _).alloc (Nat.le_refl _) _)
      | ok q nx =>
        have HB : Hid (brkL cf s (decide (lg = 2)) (s.size + 1 - nx) nx false (orP p q) = R) := Lib.hid ((brkL_step hjs (by simp) hpr).symm.trans HBR.out)
        have hnx := partR_next hpr
        unfold PartPost at HPj
        rw [hpr] at HPj
        simp only at HPj
        clear hpr
        go_wp2_with fail
        refine HPj.out.mono ?_
        rintro e' wb ⟨rfl, hmb⟩
        have HMb := Lib.hid (HM.out.trans hmb)
        have hsb := (hmb.2.2 w1.heap.size fz (by omega)).trans HS.out
        clear hmb
        obtain ⟨⟨t0, t1, t2, t3⟩, ⟨u0, u1, u2, u3⟩, uz⟩ := cells4 hsb
        have HSb := Lib.hid hsb
        clear hsb
        unfold SV
        go_wp2_with fail
        have HU := Lib.hid (unionL (wb.alloc (.cells #[.int .u64 (sw q 0 : Nat), .int .u64 (sw q 1 : Nat), .int .u64 (sw q 2 : Nat), .int .u64 (sw q 3 : Nat)] 53)) p q 53)
        simp only [World.size_alloc] at HU
        refine HU.out.mono ?_
        rintro e' wc ⟨rfl, hbc⟩
        have HMc := Lib.hid (HMb.out.trans (Mv.below HMb.out.2.1 (((Below.refl _ _).alloc (Nat.le_refl _) _).trans (hbc.mono (by simp)))))
        have hsc : wc.heap[w1.heap.size]? = some (.cells #[.int .u64 (sw p 0 : Nat), .int .u64 (sw p 1 : Nat), .int .u64 (sw p 2 : Nat), .int .u64 (sw p 3 : Nat)] 53) := (hbc.block _ (by omega)).trans ((Below.heap_alloc _ _ _ uz).trans HSb.out)
        clear hbc
        obtain ⟨⟨v0, v1, v2, v3⟩, ⟨x0, x1, x2, x3⟩, xz⟩ := cells4 hsc
        have HSc := Lib.hid hsc
        clear hsc
        unfold SV
        go_wp2_with fail
        skip
        refine ⟨⟨nx, orP p q, false, rfl, (Mv.setOther (Mv.setOther (Mv.setOther (Mv.setOther HMc.out w1.heap.size 0 _ (Nat.le_refl _) hcb1) w1.heap.size 1 _ (Nat.le_refl _) hcb1) w1.heap.size 2 _ (Nat.le_refl _) hcb1) w1.heap.size 3 _ (Nat.le_refl _) hcb1), blk_put (orP p q) HSc.out, HB.out⟩, ?_⟩
        rw [((Mv.setOther (Mv.setOther (Mv.setOther (Mv.setOther HMc.out w1.heap.size 0 _ (Nat.le_refl _) hcb1) w1.heap.size 1 _ (Nat.le_refl _) hcb1) w1.heap.size 2 _ (Nat.le_refl _) hcb1) w1.heap.size 3 _ (Nat.le_refl _) hcb1)).cur.facts.2.1, HC1.out]
        simp only
        omega
    | false =>
      by_cases h93 : atB s j = 93
      · have HT9 := Lib.hid (take1_yes cb j s 93 wr HRj.out.2.1 (by decide) h93)
        have HB : Hid (R = .ok p (j + 1)) := Lib.hid (HBR.out.symm.trans (brkL_ok hjs h93))
        go_wp2_with fail
        refine HT9.out.mono ?_
        rintro e' wk ⟨rfl, hmk⟩
        have HMk := Lib.hid (HM.out.trans hmk)
        have hsk := (hmk.2.2 w1.heap.size fz (by omega)).trans HS.out
        have HSk := Lib.hid hsk
        obtain ⟨⟨t0, t1, t2, t3⟩, ⟨u0, u1, u2, u3⟩, uz⟩ := cells4 hsk
        clear hmk hsk
        have hg := (HMk.out.2.2 w.heap.size hg1 (by omega)).trans HG1.out
        obtain ⟨⟨c0, c1, c2, c3⟩, ⟨g0, g1, g2, g3⟩, hgz⟩ := cells4 hg
        clear hg
        go_wp2
        refine bodyPost_ret (by simp [results, Tryd.results54, go_sem, c0, c1, c2, c3]; rfl) rfl ?_
        rw [HRR.out, HB.out]
        exact ⟨rfl, (Mv.setOther (Mv.setOther (Mv.setOther (Mv.setOther (HMQ.out.trans HMk.out) w.heap.size 0 _ (Nat.le_refl _) hcb) w.heap.size 1 _ (Nat.le_refl _) hcb) w.heap.size 2 _ (Nat.le_refl _) hcb) w.heap.size 3 _ (Nat.le_refl _) hcb)⟩
      · have HT9 := Lib.hid (take1_no cb j s 93 wr HRj.out.2.1 (by decide) h93)
        go_wp2_with fail
        refine HT9.out.mono ?_
        rintro e' wk ⟨rfl, hmk⟩
        have HMk := Lib.hid (HM.out.trans hmk)
        have HRk := Lib.hid (HRj.out.mv hmk)
        have HEk := Lib.hid (HEj.out.below hmk.1)
        have HSk := Lib.hid ((hmk.2.2 w1.heap.size fz (by omega)).trans HS.out)
        have fzk : w1.heap.size < wk.heap.size := Nat.lt_of_lt_of_le fz hmk.1.size
        clear hmk
        have HPj := Lib.hid (HPA.out j wk HRk.out HEk.out)
        cases hpr : partR cf s (decide (lg = 2)) j with
        | bad c pos =>
          have HB : Hid (R = .bad c pos) := Lib.hid (HBR.out.symm.trans (brkL_bad hjs (fun h => h93 h.2) hpr))
          unfold PartPost at HPj
          rw [hpr] at HPj
          simp only at HPj
          clear hpr
          go_wp2_with fail
          refine HPj.out.mono ?_
          rintro e' wb ⟨v, k', rfl, hmb, her⟩
          have HMb := Lib.hid (HMk.out.trans hmb)
          have HER := Lib.hid her
          obtain ⟨kk, rfl⟩ := her.iface
          have hzb : w.heap.size < wb.heap.size := Nat.lt_of_lt_of_le hg1 HMb.out.1.size
          have hzw : w.heap.size ≤ wk.heap.size := Nat.le_trans (Nat.le_of_lt hg1) HMk.out.1.size
          have hg := (HMb.out.2.2 w.heap.size hg1 (by omega)).trans HG1.out
          obtain ⟨⟨c0, c1, c2, c3⟩, ⟨g0, g1, g2, g3⟩, hgz⟩ := cells4 hg
          clear hmb her hg
          unfold SV
          go_wp2
          refine bodyPost_ret (by simp [results, Tryd.results54, go_sem, c0, c1, c2, c3, hgz]; rfl) rfl ?_
          rw [HRR.out, HB.out]
          refine ⟨_, _, by unfold SV; rw [item_no.1, item_no.2.1, item_no.2.2.1, item_no.2.2.2], Mv.alo (Mv.setOther (Mv.setOther (Mv.setOther (Mv.setOther (HMQ.out.trans HMb.out) w.heap.size 0 _ (Nat.le_refl _) hcb) w.heap.size 1 _ (Nat.le_refl _) hcb) w.heap.size 2 _ (Nat.le_refl _) hcb) w.heap.size 3 _ (Nat.le_refl _) hcb) _, ?_⟩
          exact ErrS.below (ErrS.set (ErrS.set (ErrS.set (ErrS.set (HER.out.lower (by omega)) w.heap.size 0 _ (by omega)) w.heap.size 1 _ (by omega)) w.heap.size 2 _ (by omega)) w.heap.size 3 _ (by omega)) ((Below.refl _ _).alloc (Nat.le_refl _) _)
        | ok q nx =>
          have HB : Hid (brkL cf s (decide (lg = 2)) (s.size + 1 - nx) nx false (orP p q) = R) := Lib.hid ((brkL_step hjs (fun h => h93 h.2) hpr).symm.trans HBR.out)
          have hnx := partR_next hpr
          unfold PartPost at HPj
          rw [hpr] at HPj
          simp only at HPj
          clear hpr
          go_wp2_with fail
          refine HPj.out.mono ?_
          rintro e' wb ⟨rfl, hmb⟩
          have HMb := Lib.hid (HMk.out.trans hmb)
          have hsb := (hmb.2.2 w1.heap.size fzk (by omega)).trans HSk.out
          clear hmb
          obtain ⟨⟨t0, t1, t2, t3⟩, ⟨u0, u1, u2, u3⟩, uz⟩ := cells4 hsb
          have HSb := Lib.hid hsb
          clear hsb
          unfold SV
          go_wp2_with fail
          have HU := Lib.hid (unionL (wb.alloc (.cells #[.int .u64 (sw q 0 : Nat), .int .u64 (sw q 1 : Nat), .int .u64 (sw q 2 : Nat), .int .u64 (sw q 3 : Nat)] 53)) p q 53)
          simp only [World.size_alloc] at HU
          refine HU.out.mono ?_
          rintro e' wc ⟨rfl, hbc⟩
          have HMc := Lib.hid (HMb.out.trans (Mv.below HMb.out.2.1 (((Below.refl _ _).alloc (Nat.le_refl _) _).trans (hbc.mono (by simp)))))
          have hsc : wc.heap[w1.heap.size]? = some (.cells #[.int .u64 (sw p 0 : Nat), .int .u64 (sw p 1 : Nat), .int .u64 (sw p 2 : Nat), .int .u64 (sw p 3 : Nat)] 53) := (hbc.block _ (by omega)).trans ((Below.heap_alloc _ _ _ uz).trans HSb.out)
          clear hbc
          obtain ⟨⟨v0, v1, v2, v3⟩, ⟨x0, x1, x2, x3⟩, xz⟩ := cells4 hsc
          have HSc := Lib.hid hsc
          clear hsc
          unfold SV
          go_wp2_with fail
          skip
          refine ⟨⟨nx, orP p q, false, rfl, (Mv.setOther (Mv.setOther (Mv.setOther (Mv.setOther HMc.out w1.heap.size 0 _ (Nat.le_refl _) hcb1) w1.heap.size 1 _ (Nat.le_refl _) hcb1) w1.heap.size 2 _ (Nat.le_refl _) hcb1) w1.heap.size 3 _ (Nat.le_refl _) hcb1), blk_put (orP p q) HSc.out, HB.out⟩, ?_⟩
          rw [((Mv.setOther (Mv.setOther (Mv.setOther (Mv.setOther HMc.out w1.heap.size 0 _ (Nat.le_refl _) hcb1) w1.heap.size 1 _ (Nat.le_refl _) hcb1) w1.heap.size 2 _ (Nat.le_refl _) hcb1) w1.heap.size 3 _ (Nat.le_refl _) hcb1)).cur.facts.2.1, HC1.out]
          simp only
          omega
set_option maxRecDepth 100000 in
set_option maxHeartbeats 16000000 in
theorem brk_bang (cf : ByteArray → (Nat → Bool) × Bool) (hcf : ClassOk cf) (e : Nat → Addr) (rb cb : Nat) (s : ByteArray) (k ah : Nat) (lg : Int) (hb47 : s.size ≤ 140737488351232) (w : World) (he : Es w cb e) (h : Rdr w rb cb s k ah lg) (hlg : lg = 2) (h1 : ¬ atB s k = 94) (h2 : atB s k = 33) (hk0 : (k + 1) ≤ s.size) :
    Calls Tryd.prog 54 #[.pointer (some ⟨rb, 0, none⟩)] w (BrkPost (brkT true (brkL cf s (decide (lg = 2)) (s.size + 1 - (k + 1)) (k + 1) true noP)) e cb s ah lg w) := by
  have HH := Lib.hid h
  have HE := Lib.hid he
  have HT1 : Hid (∀ w', Cur w' cb s k → Calls Tryd.prog 78 #[.pointer (some ⟨cb, 0, none⟩), .string ⟨#[94]⟩] w' fun e w'' => e = .returned (.bool false) ∧ Mv cb s k w' w'') := Lib.hid fun w' h' => take1_no cb k s 94 w' h' (by decide) h1
  have HT2 : Hid (∀ w', Cur w' cb s k → Calls Tryd.prog 78 #[.pointer (some ⟨cb, 0, none⟩), .string ⟨#[33]⟩] w' fun e w'' => e = .returned (.bool true) ∧ Mv cb s (k + 1) w' w'') := Lib.hid fun w' h' => take1_yes cb k s 33 w' h' (by decide) h2
  have HPA : Hid (∀ (j : Nat) (w' : World), Rdr w' rb cb s j ah lg → Es w' cb e → Calls Tryd.prog 79 #[.pointer (some ⟨rb, 0, none⟩)] w' (PartPost cf e cb s j ah lg w')) := Lib.hid fun j w' h' e' => part_any cf hcf e rb cb s j ah lg hb47 w' e' h'
  clear h he h1 h2
  obtain ⟨r0, r1, r2, rz⟩ := HH.out.facts
  go_enter Tryd.func54, Tryd.ntmps54
  go_wp2_with fail
  obtain ⟨W, hW⟩ : ∃ W, W = w.alloc (.cells #[.int .u64 0, .int .u64 0, .int .u64 0, .int .u64 0] 53) := ⟨_, rfl⟩
  rw [← hW]
  have HMW : Hid (Mv cb s k w W) := Lib.hid (by rw [hW]; exact Mv.below HH.out.2.1 ((Below.refl _ _).alloc (Nat.le_refl _) _))
  have HG0 : Hid (W.heap[w.heap.size]? = some (.cells #[.int .u64 0, .int .u64 0, .int .u64 0, .int .u64 0] 53)) := Lib.hid (by rw [hW]; exact alloc_last w _)
  have hsz : w.heap.size < W.heap.size := by rw [hW]; simp
  clear hW r0 r1 r2 rz
  have hcb := HH.out.lt.2
  have HR0 := Lib.hid (HH.out.mv HMW.out)
  have HM0 := Lib.hid (Mv.refl HR0.out.2.1)
  have HE0 := Lib.hid (HE.out.below HMW.out.1)
  refine (HT1.out _ HR0.out.2.1).mono ?_
  rintro e' w1 ⟨rfl, hm1⟩
  have HM1 := Lib.hid (HM0.out.trans hm1)
  have HR1 := Lib.hid (HR0.out.mv HM1.out)
  obtain ⟨a10, a11, a12, a1z⟩ := HR1.out.facts
  clear hm1
  go_wp2_with fail
  refine (HT2.out _ HR1.out.2.1).mono ?_
  rintro e' w2 ⟨rfl, hm2⟩
  have HM2 := Lib.hid (HM1.out.trans hm2)
  have HR2 := Lib.hid (HR0.out.mv HM2.out)
  obtain ⟨a20, a21, a22, a2z⟩ := HR2.out.facts
  clear hm2
  have HX : Hid (W.heap.size ≤ w2.heap.size) := Lib.hid HM2.out.1.size
  have hcb1 : cb < w2.heap.size := HR2.out.lt.2
  have hg1 : w.heap.size < w2.heap.size := Nat.lt_of_lt_of_le hsz HX.out
  have HG1 := Lib.hid ((HM2.out.2.2 w.heap.size hsz (by omega)).trans HG0.out)
  have HMQ := Lib.hid (HMW.out.trans HM2.out)
  have HEQ := Lib.hid (HE0.out.below HM2.out.1)
  generalize hR : brkL cf s (decide (lg = 2)) (s.size + 1 - (k + 1)) (k + 1) true noP = R
  have HRR := Lib.hid hR
  clear hR
  go_wp2_with fail
  go_loopw [6] (fun f wr => ∃ (j : Nat) (p : Nat → Bool) (fb : Bool), f = .bool fb ∧ Mv cb s j w2 wr ∧ wr.heap[w2.heap.size]? = some (.cells #[.int .u64 (sw p 0 : Nat), .int .u64 (sw p 1 : Nat), .int .u64 (sw p 2 : Nat), .int .u64 (sw p 3 : Nat)] 53) ∧ brkL cf s (decide (lg = 2)) (s.size + 1 - j) j fb p = R) (fun _ wr => match wr.cell? ⟨cb, 1, none⟩ with | some (.int _ n) => s.size + 1 - n.toNat | _ => 0)
  case atStart =>
    refine ⟨(k + 1), noP, true, rfl, Mv.below HR2.out.2.1 ((Below.refl _ _).alloc (Nat.le_refl _) _), ?_, HRR.out⟩
    rw [item_no.1, item_no.2.1, item_no.2.2.1, item_no.2.2.2]
    exact alloc_last _ _
  case round =>
    obtain ⟨j, p, fb, rfl, hmv, hs, hbr⟩ := hrel
    have HM := Lib.hid hmv
    have HS := Lib.hid hs
    have HBR := Lib.hid hbr
    have HRj := Lib.hid (HR2.out.mv hmv)
    have HEj := Lib.hid (HEQ.out.below hmv.1)
    have hjs := hmv.2.1.2.1
    have HC1 := Lib.hid hmv.cur.facts.2.1
    obtain ⟨q0, q1, q2, qz⟩ := HRj.out.facts
    obtain ⟨⟨s0, s1, s2, s3⟩, ⟨f0, f1, f2, f3⟩, fz⟩ := cells4 hs
    clear hmv hs hbr
    cases fb with
    | true =>
      have HPj := Lib.hid (HPA.out j wr HRj.out HEj.out)
      cases hpr : partR cf s (decide (lg = 2)) j with
      | bad c pos =>
        have HB : Hid (R = .bad c pos) := Lib.hid (HBR.out.symm.trans (brkL_bad hjs (by simp) hpr))
        unfold PartPost at HPj
        rw [hpr] at HPj
        simp only at HPj
        clear hpr
        go_wp2_with fail
        refine HPj.out.mono ?_
        rintro e' wb ⟨v, k', rfl, hmb, her⟩
        have HMb := Lib.hid (HM.out.trans hmb)
        have HER := Lib.hid her
        obtain ⟨kk, rfl⟩ := her.iface
        have hzb : w.heap.size < wb.heap.size := Nat.lt_of_lt_of_le hg1 HMb.out.1.size
        have hzw : w.heap.size ≤ wr.heap.size := Nat.le_trans (Nat.le_of_lt hg1) HM.out.1.size
        have hg := (HMb.out.2.2 w.heap.size hg1 (by omega)).trans HG1.out
        obtain ⟨⟨c0, c1, c2, c3⟩, ⟨g0, g1, g2, g3⟩, hgz⟩ := cells4 hg
        clear hmb her hg
        unfold SV
        go_wp2
        refine bodyPost_ret (by simp [results, Tryd.results54, go_sem, c0, c1, c2, c3, hgz]; rfl) rfl ?_
        rw [HRR.out, HB.out]
        refine ⟨_, _, by unfold SV; rw [item_no.1, item_no.2.1, item_no.2.2.1, item_no.2.2.2], Mv.alo (Mv.setOther (Mv.setOther (Mv.setOther (Mv.setOther (HMQ.out.trans HMb.out) w.heap.size 0 _ (Nat.le_refl _) hcb) w.heap.size 1 _ (Nat.le_refl _) hcb) w.heap.size 2 _ (Nat.le_refl _) hcb) w.heap.size 3 _ (Nat.le_refl _) hcb) _, ?_⟩
        exact ErrS.below (ErrS.set (ErrS.set (ErrS.set (ErrS.set (HER.out.lower (by omega)) w.heap.size 0 _ (by omega)) w.heap.size 1 _ (by omega)) w.heap.size 2 _ (by omega)) w.heap.size 3 _ (by omega)) ((Below.refl _ _).alloc (Nat.le_refl _) _)
      | ok q nx =>
        have HB : Hid (brkL cf s (decide (lg = 2)) (s.size + 1 - nx) nx false (orP p q) = R) := Lib.hid ((brkL_step hjs (by simp) hpr).symm.trans HBR.out)
        have hnx := partR_next hpr
        unfold PartPost at HPj
        rw [hpr] at HPj
        simp only at HPj
        clear hpr
        go_wp2_with fail
        refine HPj.out.mono ?_
        rintro e' wb ⟨rfl, hmb⟩
        have HMb := Lib.hid (HM.out.trans hmb)
        have hsb := (hmb.2.2 w2.heap.size fz (by omega)).trans HS.out
        clear hmb
        obtain ⟨⟨t0, t1, t2, t3⟩, ⟨u0, u1, u2, u3⟩, uz⟩ := cells4 hsb
        have HSb := Lib.hid hsb
        clear hsb
        unfold SV
        go_wp2_with fail
        have HU := Lib.hid (unionL (wb.alloc (.cells #[.int .u64 (sw q 0 : Nat), .int .u64 (sw q 1 : Nat), .int .u64 (sw q 2 : Nat), .int .u64 (sw q 3 : Nat)] 53)) p q 53)
        simp only [World.size_alloc] at HU
        refine HU.out.mono ?_
        rintro e' wc ⟨rfl, hbc⟩
        have HMc := Lib.hid (HMb.out.trans (Mv.below HMb.out.2.1 (((Below.refl _ _).alloc (Nat.le_refl _) _).trans (hbc.mono (by simp)))))
        have hsc : wc.heap[w2.heap.size]? = some (.cells #[.int .u64 (sw p 0 : Nat), .int .u64 (sw p 1 : Nat), .int .u64 (sw p 2 : Nat), .int .u64 (sw p 3 : Nat)] 53) := (hbc.block _ (by omega)).trans ((Below.heap_alloc _ _ _ uz).trans HSb.out)
        clear hbc
        obtain ⟨⟨v0, v1, v2, v3⟩, ⟨x0, x1, x2, x3⟩, xz⟩ := cells4 hsc
        have HSc := Lib.hid hsc
        clear hsc
        unfold SV
        go_wp2_with fail
        skip
        refine ⟨⟨nx, orP p q, false, rfl, (Mv.setOther (Mv.setOther (Mv.setOther (Mv.setOther HMc.out w2.heap.size 0 _ (Nat.le_refl _) hcb1) w2.heap.size 1 _ (Nat.le_refl _) hcb1) w2.heap.size 2 _ (Nat.le_refl _) hcb1) w2.heap.size 3 _ (Nat.le_refl _) hcb1), blk_put (orP p q) HSc.out, HB.out⟩, ?_⟩
        rw [((Mv.setOther (Mv.setOther (Mv.setOther (Mv.setOther HMc.out w2.heap.size 0 _ (Nat.le_refl _) hcb1) w2.heap.size 1 _ (Nat.le_refl _) hcb1) w2.heap.size 2 _ (Nat.le_refl _) hcb1) w2.heap.size 3 _ (Nat.le_refl _) hcb1)).cur.facts.2.1, HC1.out]
        simp only
        omega
    | false =>
      by_cases h93 : atB s j = 93
      · have HT9 := Lib.hid (take1_yes cb j s 93 wr HRj.out.2.1 (by decide) h93)
        have HB : Hid (R = .ok p (j + 1)) := Lib.hid (HBR.out.symm.trans (brkL_ok hjs h93))
        go_wp2_with fail
        refine HT9.out.mono ?_
        rintro e' wk ⟨rfl, hmk⟩
        have HMk := Lib.hid (HM.out.trans hmk)
        have hsk := (hmk.2.2 w2.heap.size fz (by omega)).trans HS.out
        have HSk := Lib.hid hsk
        obtain ⟨⟨t0, t1, t2, t3⟩, ⟨u0, u1, u2, u3⟩, uz⟩ := cells4 hsk
        clear hmk hsk
        have HNO : ∀ w, Hid (Calls Tryd.prog 81 #[.agg #[.int .u64 (sw p 0 : Nat), .int .u64 (sw p 1 : Nat), .int .u64 (sw p 2 : Nat), .int .u64 (sw p 3 : Nat)]] w fun e w' => e = .returned (SV (notP p)) ∧ Below w.heap.size w w') := fun w => Lib.hid (not_any p w)
        go_wp2_with fail
        refine (HNO _).out.mono ?_
        rintro e' wl ⟨rfl, hbl⟩
        have HMl := Lib.hid (HMk.out.trans (Mv.below HMk.out.2.1 hbl))
        have hsl := (hbl.block _ uz).trans HSk.out
        obtain ⟨⟨v0, v1, v2, v3⟩, ⟨x0, x1, x2, x3⟩, xz⟩ := cells4 hsl
        have hg := (HMl.out.2.2 w.heap.size hg1 (by omega)).trans HG1.out
        obtain ⟨⟨c0, c1, c2, c3⟩, ⟨g0, g1, g2, g3⟩, hgz⟩ := cells4 hg
        clear hbl hsl hg
        unfold SV
        go_wp2
        refine bodyPost_ret (by simp [results, Tryd.results54, go_sem, c0, c1, c2, c3]; rfl) rfl ?_
        rw [HRR.out, HB.out]
        exact ⟨rfl, (Mv.setOther (Mv.setOther (Mv.setOther (Mv.setOther (HMQ.out.trans (Mv.setOther (Mv.setOther (Mv.setOther (Mv.setOther HMl.out w2.heap.size 0 _ (Nat.le_refl _) hcb1) w2.heap.size 1 _ (Nat.le_refl _) hcb1) w2.heap.size 2 _ (Nat.le_refl _) hcb1) w2.heap.size 3 _ (Nat.le_refl _) hcb1)) w.heap.size 0 _ (Nat.le_refl _) hcb) w.heap.size 1 _ (Nat.le_refl _) hcb) w.heap.size 2 _ (Nat.le_refl _) hcb) w.heap.size 3 _ (Nat.le_refl _) hcb)⟩
      · have HT9 := Lib.hid (take1_no cb j s 93 wr HRj.out.2.1 (by decide) h93)
        go_wp2_with fail
        refine HT9.out.mono ?_
        rintro e' wk ⟨rfl, hmk⟩
        have HMk := Lib.hid (HM.out.trans hmk)
        have HRk := Lib.hid (HRj.out.mv hmk)
        have HEk := Lib.hid (HEj.out.below hmk.1)
        have HSk := Lib.hid ((hmk.2.2 w2.heap.size fz (by omega)).trans HS.out)
        have fzk : w2.heap.size < wk.heap.size := Nat.lt_of_lt_of_le fz hmk.1.size
        clear hmk
        have HPj := Lib.hid (HPA.out j wk HRk.out HEk.out)
        cases hpr : partR cf s (decide (lg = 2)) j with
        | bad c pos =>
          have HB : Hid (R = .bad c pos) := Lib.hid (HBR.out.symm.trans (brkL_bad hjs (fun h => h93 h.2) hpr))
          unfold PartPost at HPj
          rw [hpr] at HPj
          simp only at HPj
          clear hpr
          go_wp2_with fail
          refine HPj.out.mono ?_
          rintro e' wb ⟨v, k', rfl, hmb, her⟩
          have HMb := Lib.hid (HMk.out.trans hmb)
          have HER := Lib.hid her
          obtain ⟨kk, rfl⟩ := her.iface
          have hzb : w.heap.size < wb.heap.size := Nat.lt_of_lt_of_le hg1 HMb.out.1.size
          have hzw : w.heap.size ≤ wk.heap.size := Nat.le_trans (Nat.le_of_lt hg1) HMk.out.1.size
          have hg := (HMb.out.2.2 w.heap.size hg1 (by omega)).trans HG1.out
          obtain ⟨⟨c0, c1, c2, c3⟩, ⟨g0, g1, g2, g3⟩, hgz⟩ := cells4 hg
          clear hmb her hg
          unfold SV
          go_wp2
          refine bodyPost_ret (by simp [results, Tryd.results54, go_sem, c0, c1, c2, c3, hgz]; rfl) rfl ?_
          rw [HRR.out, HB.out]
          refine ⟨_, _, by unfold SV; rw [item_no.1, item_no.2.1, item_no.2.2.1, item_no.2.2.2], Mv.alo (Mv.setOther (Mv.setOther (Mv.setOther (Mv.setOther (HMQ.out.trans HMb.out) w.heap.size 0 _ (Nat.le_refl _) hcb) w.heap.size 1 _ (Nat.le_refl _) hcb) w.heap.size 2 _ (Nat.le_refl _) hcb) w.heap.size 3 _ (Nat.le_refl _) hcb) _, ?_⟩
          exact ErrS.below (ErrS.set (ErrS.set (ErrS.set (ErrS.set (HER.out.lower (by omega)) w.heap.size 0 _ (by omega)) w.heap.size 1 _ (by omega)) w.heap.size 2 _ (by omega)) w.heap.size 3 _ (by omega)) ((Below.refl _ _).alloc (Nat.le_refl _) _)
        | ok q nx =>
          have HB : Hid (brkL cf s (decide (lg = 2)) (s.size + 1 - nx) nx false (orP p q) = R) := Lib.hid ((brkL_step hjs (fun h => h93 h.2) hpr).symm.trans HBR.out)
          have hnx := partR_next hpr
          unfold PartPost at HPj
          rw [hpr] at HPj
          simp only at HPj
          clear hpr
          go_wp2_with fail
          refine HPj.out.mono ?_
          rintro e' wb ⟨rfl, hmb⟩
          have HMb := Lib.hid (HMk.out.trans hmb)
          have hsb := (hmb.2.2 w2.heap.size fzk (by omega)).trans HSk.out
          clear hmb
          obtain ⟨⟨t0, t1, t2, t3⟩, ⟨u0, u1, u2, u3⟩, uz⟩ := cells4 hsb
          have HSb := Lib.hid hsb
          clear hsb
          unfold SV
          go_wp2_with fail
          have HU := Lib.hid (unionL (wb.alloc (.cells #[.int .u64 (sw q 0 : Nat), .int .u64 (sw q 1 : Nat), .int .u64 (sw q 2 : Nat), .int .u64 (sw q 3 : Nat)] 53)) p q 53)
          simp only [World.size_alloc] at HU
          refine HU.out.mono ?_
          rintro e' wc ⟨rfl, hbc⟩
          have HMc := Lib.hid (HMb.out.trans (Mv.below HMb.out.2.1 (((Below.refl _ _).alloc (Nat.le_refl _) _).trans (hbc.mono (by simp)))))
          have hsc : wc.heap[w2.heap.size]? = some (.cells #[.int .u64 (sw p 0 : Nat), .int .u64 (sw p 1 : Nat), .int .u64 (sw p 2 : Nat), .int .u64 (sw p 3 : Nat)] 53) := (hbc.block _ (by omega)).trans ((Below.heap_alloc _ _ _ uz).trans HSb.out)
          clear hbc
          obtain ⟨⟨v0, v1, v2, v3⟩, ⟨x0, x1, x2, x3⟩, xz⟩ := cells4 hsc
          have HSc := Lib.hid hsc
          clear hsc
          unfold SV
          go_wp2_with fail
          skip
          refine ⟨⟨nx, orP p q, false, rfl, (Mv.setOther (Mv.setOther (Mv.setOther (Mv.setOther HMc.out w2.heap.size 0 _ (Nat.le_refl _) hcb1) w2.heap.size 1 _ (Nat.le_refl _) hcb1) w2.heap.size 2 _ (Nat.le_refl _) hcb1) w2.heap.size 3 _ (Nat.le_refl _) hcb1), blk_put (orP p q) HSc.out, HB.out⟩, ?_⟩
          rw [((Mv.setOther (Mv.setOther (Mv.setOther (Mv.setOther HMc.out w2.heap.size 0 _ (Nat.le_refl _) hcb1) w2.heap.size 1 _ (Nat.le_refl _) hcb1) w2.heap.size 2 _ (Nat.le_refl _) hcb1) w2.heap.size 3 _ (Nat.le_refl _) hcb1)).cur.facts.2.1, HC1.out]
          simp only
          omega
set_option maxRecDepth 100000 in
set_option maxHeartbeats 16000000 in
theorem brk_glob (cf : ByteArray → (Nat → Bool) × Bool) (hcf : ClassOk cf) (e : Nat → Addr) (rb cb : Nat) (s : ByteArray) (k ah : Nat) (lg : Int) (hb47 : s.size ≤ 140737488351232) (w : World) (he : Es w cb e) (h : Rdr w rb cb s k ah lg) (hlg : lg = 2) (h1 : ¬ atB s k = 94) (h2 : ¬ atB s k = 33) (hk0 : k ≤ s.size) :
    Calls Tryd.prog 54 #[.pointer (some ⟨rb, 0, none⟩)] w (BrkPost (brkT false (brkL cf s (decide (lg = 2)) (s.size + 1 - k) k true noP)) e cb s ah lg w) := by
  have HH := Lib.hid h
  have HE := Lib.hid he
  have HT1 : Hid (∀ w', Cur w' cb s k → Calls Tryd.prog 78 #[.pointer (some ⟨cb, 0, none⟩), .string ⟨#[94]⟩] w' fun e w'' => e = .returned (.bool false) ∧ Mv cb s k w' w'') := Lib.hid fun w' h' => take1_no cb k s 94 w' h' (by decide) h1
  have HT2 : Hid (∀ w', Cur w' cb s k → Calls Tryd.prog 78 #[.pointer (some ⟨cb, 0, none⟩), .string ⟨#[33]⟩] w' fun e w'' => e = .returned (.bool false) ∧ Mv cb s k w' w'') := Lib.hid fun w' h' => take1_no cb k s 33 w' h' (by decide) h2
  have HPA : Hid (∀ (j : Nat) (w' : World), Rdr w' rb cb s j ah lg → Es w' cb e → Calls Tryd.prog 79 #[.pointer (some ⟨rb, 0, none⟩)] w' (PartPost cf e cb s j ah lg w')) := Lib.hid fun j w' h' e' => part_any cf hcf e rb cb s j ah lg hb47 w' e' h'
  clear h he h1 h2
  obtain ⟨r0, r1, r2, rz⟩ := HH.out.facts
  go_enter Tryd.func54, Tryd.ntmps54
  go_wp2_with fail
  obtain ⟨W, hW⟩ : ∃ W, W = w.alloc (.cells #[.int .u64 0, .int .u64 0, .int .u64 0, .int .u64 0] 53) := ⟨_, rfl⟩
  rw [← hW]
  have HMW : Hid (Mv cb s k w W) := Lib.hid (by rw [hW]; exact Mv.below HH.out.2.1 ((Below.refl _ _).alloc (Nat.le_refl _) _))
  have HG0 : Hid (W.heap[w.heap.size]? = some (.cells #[.int .u64 0, .int .u64 0, .int .u64 0, .int .u64 0] 53)) := Lib.hid (by rw [hW]; exact alloc_last w _)
  have hsz : w.heap.size < W.heap.size := by rw [hW]; simp
  clear hW r0 r1 r2 rz
  have hcb := HH.out.lt.2
  have HR0 := Lib.hid (HH.out.mv HMW.out)
  have HM0 := Lib.hid (Mv.refl HR0.out.2.1)
  have HE0 := Lib.hid (HE.out.below HMW.out.1)
  refine (HT1.out _ HR0.out.2.1).mono ?_
  rintro e' w1 ⟨rfl, hm1⟩
  have HM1 := Lib.hid (HM0.out.trans hm1)
  have HR1 := Lib.hid (HR0.out.mv HM1.out)
  obtain ⟨a10, a11, a12, a1z⟩ := HR1.out.facts
  clear hm1
  go_wp2_with fail
  refine (HT2.out _ HR1.out.2.1).mono ?_
  rintro e' w2 ⟨rfl, hm2⟩
  have HM2 := Lib.hid (HM1.out.trans hm2)
  have HR2 := Lib.hid (HR0.out.mv HM2.out)
  obtain ⟨a20, a21, a22, a2z⟩ := HR2.out.facts
  clear hm2
  have HX : Hid (W.heap.size ≤ w2.heap.size) := Lib.hid HM2.out.1.size
  have hcb1 : cb < w2.heap.size := HR2.out.lt.2
  have hg1 : w.heap.size < w2.heap.size := Nat.lt_of_lt_of_le hsz HX.out
  have HG1 := Lib.hid ((HM2.out.2.2 w.heap.size hsz (by omega)).trans HG0.out)
  have HMQ := Lib.hid (HMW.out.trans HM2.out)
  have HEQ := Lib.hid (HE0.out.below HM2.out.1)
  generalize hR : brkL cf s (decide (lg = 2)) (s.size + 1 - k) k true noP = R
  have HRR := Lib.hid hR
  clear hR
  go_wp2_with fail
  go_loopw [6] (fun f wr => ∃ (j : Nat) (p : Nat → Bool) (fb : Bool), f = .bool fb ∧ Mv cb s j w2 wr ∧ wr.heap[w2.heap.size]? = some (.cells #[.int .u64 (sw p 0 : Nat), .int .u64 (sw p 1 : Nat), .int .u64 (sw p 2 : Nat), .int .u64 (sw p 3 : Nat)] 53) ∧ brkL cf s (decide (lg = 2)) (s.size + 1 - j) j fb p = R) (fun _ wr => match wr.cell? ⟨cb, 1, none⟩ with | some (.int _ n) => s.size + 1 - n.toNat | _ => 0)
  case atStart =>
    refine ⟨k, noP, true, rfl, Mv.below HR2.out.2.1 ((Below.refl _ _).alloc (Nat.le_refl _) _), ?_, HRR.out⟩
    rw [item_no.1, item_no.2.1, item_no.2.2.1, item_no.2.2.2]
    exact alloc_last _ _
  case round =>
    obtain ⟨j, p, fb, rfl, hmv, hs, hbr⟩ := hrel
    have HM := Lib.hid hmv
    have HS := Lib.hid hs
    have HBR := Lib.hid hbr
    have HRj := Lib.hid (HR2.out.mv hmv)
    have HEj := Lib.hid (HEQ.out.below hmv.1)
    have hjs := hmv.2.1.2.1
    have HC1 := Lib.hid hmv.cur.facts.2.1
    obtain ⟨q0, q1, q2, qz⟩ := HRj.out.facts
    obtain ⟨⟨s0, s1, s2, s3⟩, ⟨f0, f1, f2, f3⟩, fz⟩ := cells4 hs
    clear hmv hs hbr
    cases fb with
    | true =>
      have HPj := Lib.hid (HPA.out j wr HRj.out HEj.out)
      cases hpr : partR cf s (decide (lg = 2)) j with
      | bad c pos =>
        have HB : Hid (R = .bad c pos) := Lib.hid (HBR.out.symm.trans (brkL_bad hjs (by simp) hpr))
        unfold PartPost at HPj
        rw [hpr] at HPj
        simp only at HPj
        clear hpr
        go_wp2_with fail
        refine HPj.out.mono ?_
        rintro e' wb ⟨v, k', rfl, hmb, her⟩
        have HMb := Lib.hid (HM.out.trans hmb)
        have HER := Lib.hid her
        obtain ⟨kk, rfl⟩ := her.iface
        have hzb : w.heap.size < wb.heap.size := Nat.lt_of_lt_of_le hg1 HMb.out.1.size
        have hzw : w.heap.size ≤ wr.heap.size := Nat.le_trans (Nat.le_of_lt hg1) HM.out.1.size
        have hg := (HMb.out.2.2 w.heap.size hg1 (by omega)).trans HG1.out
        obtain ⟨⟨c0, c1, c2, c3⟩, ⟨g0, g1, g2, g3⟩, hgz⟩ := cells4 hg
        clear hmb her hg
        unfold SV
        go_wp2
        refine bodyPost_ret (by simp [results, Tryd.results54, go_sem, c0, c1, c2, c3, hgz]; rfl) rfl ?_
        rw [HRR.out, HB.out]
        refine ⟨_, _, by unfold SV; rw [item_no.1, item_no.2.1, item_no.2.2.1, item_no.2.2.2], Mv.alo (Mv.setOther (Mv.setOther (Mv.setOther (Mv.setOther (HMQ.out.trans HMb.out) w.heap.size 0 _ (Nat.le_refl _) hcb) w.heap.size 1 _ (Nat.le_refl _) hcb) w.heap.size 2 _ (Nat.le_refl _) hcb) w.heap.size 3 _ (Nat.le_refl _) hcb) _, ?_⟩
        exact ErrS.below (ErrS.set (ErrS.set (ErrS.set (ErrS.set (HER.out.lower (by omega)) w.heap.size 0 _ (by omega)) w.heap.size 1 _ (by omega)) w.heap.size 2 _ (by omega)) w.heap.size 3 _ (by omega)) ((Below.refl _ _).alloc (Nat.le_refl _) _)
      | ok q nx =>
        have HB : Hid (brkL cf s (decide (lg = 2)) (s.size + 1 - nx) nx false (orP p q) = R) := Lib.hid ((brkL_step hjs (by simp) hpr).symm.trans HBR.out)
        have hnx := partR_next hpr
        unfold PartPost at HPj
        rw [hpr] at HPj
        simp only at HPj
        clear hpr
        go_wp2_with fail
        refine HPj.out.mono ?_
        rintro e' wb ⟨rfl, hmb⟩
        have HMb := Lib.hid (HM.out.trans hmb)
        have hsb := (hmb.2.2 w2.heap.size fz (by omega)).trans HS.out
        clear hmb
        obtain ⟨⟨t0, t1, t2, t3⟩, ⟨u0, u1, u2, u3⟩, uz⟩ := cells4 hsb
        have HSb := Lib.hid hsb
        clear hsb
        unfold SV
        go_wp2_with fail
        have HU := Lib.hid (unionL (wb.alloc (.cells #[.int .u64 (sw q 0 : Nat), .int .u64 (sw q 1 : Nat), .int .u64 (sw q 2 : Nat), .int .u64 (sw q 3 : Nat)] 53)) p q 53)
        simp only [World.size_alloc] at HU
        refine HU.out.mono ?_
        rintro e' wc ⟨rfl, hbc⟩
        have HMc := Lib.hid (HMb.out.trans (Mv.below HMb.out.2.1 (((Below.refl _ _).alloc (Nat.le_refl _) _).trans (hbc.mono (by simp)))))
        have hsc : wc.heap[w2.heap.size]? = some (.cells #[.int .u64 (sw p 0 : Nat), .int .u64 (sw p 1 : Nat), .int .u64 (sw p 2 : Nat), .int .u64 (sw p 3 : Nat)] 53) := (hbc.block _ (by omega)).trans ((Below.heap_alloc _ _ _ uz).trans HSb.out)
        clear hbc
        obtain ⟨⟨v0, v1, v2, v3⟩, ⟨x0, x1, x2, x3⟩, xz⟩ := cells4 hsc
        have HSc := Lib.hid hsc
        clear hsc
        unfold SV
        go_wp2_with fail
        skip
        refine ⟨⟨nx, orP p q, false, rfl, (Mv.setOther (Mv.setOther (Mv.setOther (Mv.setOther HMc.out w2.heap.size 0 _ (Nat.le_refl _) hcb1) w2.heap.size 1 _ (Nat.le_refl _) hcb1) w2.heap.size 2 _ (Nat.le_refl _) hcb1) w2.heap.size 3 _ (Nat.le_refl _) hcb1), blk_put (orP p q) HSc.out, HB.out⟩, ?_⟩
        rw [((Mv.setOther (Mv.setOther (Mv.setOther (Mv.setOther HMc.out w2.heap.size 0 _ (Nat.le_refl _) hcb1) w2.heap.size 1 _ (Nat.le_refl _) hcb1) w2.heap.size 2 _ (Nat.le_refl _) hcb1) w2.heap.size 3 _ (Nat.le_refl _) hcb1)).cur.facts.2.1, HC1.out]
        simp only
        omega
    | false =>
      by_cases h93 : atB s j = 93
      · have HT9 := Lib.hid (take1_yes cb j s 93 wr HRj.out.2.1 (by decide) h93)
        have HB : Hid (R = .ok p (j + 1)) := Lib.hid (HBR.out.symm.trans (brkL_ok hjs h93))
        go_wp2_with fail
        refine HT9.out.mono ?_
        rintro e' wk ⟨rfl, hmk⟩
        have HMk := Lib.hid (HM.out.trans hmk)
        have hsk := (hmk.2.2 w2.heap.size fz (by omega)).trans HS.out
        have HSk := Lib.hid hsk
        obtain ⟨⟨t0, t1, t2, t3⟩, ⟨u0, u1, u2, u3⟩, uz⟩ := cells4 hsk
        clear hmk hsk
        have hg := (HMk.out.2.2 w.heap.size hg1 (by omega)).trans HG1.out
        obtain ⟨⟨c0, c1, c2, c3⟩, ⟨g0, g1, g2, g3⟩, hgz⟩ := cells4 hg
        clear hg
        go_wp2
        refine bodyPost_ret (by simp [results, Tryd.results54, go_sem, c0, c1, c2, c3]; rfl) rfl ?_
        rw [HRR.out, HB.out]
        exact ⟨rfl, (Mv.setOther (Mv.setOther (Mv.setOther (Mv.setOther (HMQ.out.trans HMk.out) w.heap.size 0 _ (Nat.le_refl _) hcb) w.heap.size 1 _ (Nat.le_refl _) hcb) w.heap.size 2 _ (Nat.le_refl _) hcb) w.heap.size 3 _ (Nat.le_refl _) hcb)⟩
      · have HT9 := Lib.hid (take1_no cb j s 93 wr HRj.out.2.1 (by decide) h93)
        go_wp2_with fail
        refine HT9.out.mono ?_
        rintro e' wk ⟨rfl, hmk⟩
        have HMk := Lib.hid (HM.out.trans hmk)
        have HRk := Lib.hid (HRj.out.mv hmk)
        have HEk := Lib.hid (HEj.out.below hmk.1)
        have HSk := Lib.hid ((hmk.2.2 w2.heap.size fz (by omega)).trans HS.out)
        have fzk : w2.heap.size < wk.heap.size := Nat.lt_of_lt_of_le fz hmk.1.size
        clear hmk
        have HPj := Lib.hid (HPA.out j wk HRk.out HEk.out)
        cases hpr : partR cf s (decide (lg = 2)) j with
        | bad c pos =>
          have HB : Hid (R = .bad c pos) := Lib.hid (HBR.out.symm.trans (brkL_bad hjs (fun h => h93 h.2) hpr))
          unfold PartPost at HPj
          rw [hpr] at HPj
          simp only at HPj
          clear hpr
          go_wp2_with fail
          refine HPj.out.mono ?_
          rintro e' wb ⟨v, k', rfl, hmb, her⟩
          have HMb := Lib.hid (HMk.out.trans hmb)
          have HER := Lib.hid her
          obtain ⟨kk, rfl⟩ := her.iface
          have hzb : w.heap.size < wb.heap.size := Nat.lt_of_lt_of_le hg1 HMb.out.1.size
          have hzw : w.heap.size ≤ wk.heap.size := Nat.le_trans (Nat.le_of_lt hg1) HMk.out.1.size
          have hg := (HMb.out.2.2 w.heap.size hg1 (by omega)).trans HG1.out
          obtain ⟨⟨c0, c1, c2, c3⟩, ⟨g0, g1, g2, g3⟩, hgz⟩ := cells4 hg
          clear hmb her hg
          unfold SV
          go_wp2
          refine bodyPost_ret (by simp [results, Tryd.results54, go_sem, c0, c1, c2, c3, hgz]; rfl) rfl ?_
          rw [HRR.out, HB.out]
          refine ⟨_, _, by unfold SV; rw [item_no.1, item_no.2.1, item_no.2.2.1, item_no.2.2.2], Mv.alo (Mv.setOther (Mv.setOther (Mv.setOther (Mv.setOther (HMQ.out.trans HMb.out) w.heap.size 0 _ (Nat.le_refl _) hcb) w.heap.size 1 _ (Nat.le_refl _) hcb) w.heap.size 2 _ (Nat.le_refl _) hcb) w.heap.size 3 _ (Nat.le_refl _) hcb) _, ?_⟩
          exact ErrS.below (ErrS.set (ErrS.set (ErrS.set (ErrS.set (HER.out.lower (by omega)) w.heap.size 0 _ (by omega)) w.heap.size 1 _ (by omega)) w.heap.size 2 _ (by omega)) w.heap.size 3 _ (by omega)) ((Below.refl _ _).alloc (Nat.le_refl _) _)
        | ok q nx =>
          have HB : Hid (brkL cf s (decide (lg = 2)) (s.size + 1 - nx) nx false (orP p q) = R) := Lib.hid ((brkL_step hjs (fun h => h93 h.2) hpr).symm.trans HBR.out)
          have hnx := partR_next hpr
          unfold PartPost at HPj
          rw [hpr] at HPj
          simp only at HPj
          clear hpr
          go_wp2_with fail
          refine HPj.out.mono ?_
          rintro e' wb ⟨rfl, hmb⟩
          have HMb := Lib.hid (HMk.out.trans hmb)
          have hsb := (hmb.2.2 w2.heap.size fzk (by omega)).trans HSk.out
          clear hmb
          obtain ⟨⟨t0, t1, t2, t3⟩, ⟨u0, u1, u2, u3⟩, uz⟩ := cells4 hsb
          have HSb := Lib.hid hsb
          clear hsb
          unfold SV
          go_wp2_with fail
          have HU := Lib.hid (unionL (wb.alloc (.cells #[.int .u64 (sw q 0 : Nat), .int .u64 (sw q 1 : Nat), .int .u64 (sw q 2 : Nat), .int .u64 (sw q 3 : Nat)] 53)) p q 53)
          simp only [World.size_alloc] at HU
          refine HU.out.mono ?_
          rintro e' wc ⟨rfl, hbc⟩
          have HMc := Lib.hid (HMb.out.trans (Mv.below HMb.out.2.1 (((Below.refl _ _).alloc (Nat.le_refl _) _).trans (hbc.mono (by simp)))))
          have hsc : wc.heap[w2.heap.size]? = some (.cells #[.int .u64 (sw p 0 : Nat), .int .u64 (sw p 1 : Nat), .int .u64 (sw p 2 : Nat), .int .u64 (sw p 3 : Nat)] 53) := (hbc.block _ (by omega)).trans ((Below.heap_alloc _ _ _ uz).trans HSb.out)
          clear hbc
          obtain ⟨⟨v0, v1, v2, v3⟩, ⟨x0, x1, x2, x3⟩, xz⟩ := cells4 hsc
          have HSc := Lib.hid hsc
          clear hsc
          unfold SV
          go_wp2_with fail
          skip
          refine ⟨⟨nx, orP p q, false, rfl, (Mv.setOther (Mv.setOther (Mv.setOther (Mv.setOther HMc.out w2.heap.size 0 _ (Nat.le_refl _) hcb1) w2.heap.size 1 _ (Nat.le_refl _) hcb1) w2.heap.size 2 _ (Nat.le_refl _) hcb1) w2.heap.size 3 _ (Nat.le_refl _) hcb1), blk_put (orP p q) HSc.out, HB.out⟩, ?_⟩
          rw [((Mv.setOther (Mv.setOther (Mv.setOther (Mv.setOther HMc.out w2.heap.size 0 _ (Nat.le_refl _) hcb1) w2.heap.size 1 _ (Nat.le_refl _) hcb1) w2.heap.size 2 _ (Nat.le_refl _) hcb1) w2.heap.size 3 _ (Nat.le_refl _) hcb1)).cur.facts.2.1, HC1.out]
          simp only
          omega
theorem brk_any (cf : ByteArray → (Nat → Bool) × Bool) (hcf : ClassOk cf) (e : Nat → Addr) (rb cb : Nat) (s : ByteArray) (k ah : Nat) (lg : Int) (hb47 : s.size ≤ 140737488351232) (w : World) (he : Es w cb e) (h : Rdr w rb cb s k ah lg) :
    Calls Tryd.prog 54 #[.pointer (some ⟨rb, 0, none⟩)] w (BrkPost (brkR cf s (decide (lg = 2)) k) e cb s ah lg w) := by
  have hks := h.2.1.2.1
  unfold brkR
  by_cases h1 : atB s k = 94
  · rw [if_pos (Or.inl h1)]
    have := atB_in (s := s) (k := k) (by rw [h1]; decide)
    exact brk_hat cf hcf e rb cb s k ah lg hb47 w he h h1 (by omega)
  · by_cases hlg : lg = 2
    · by_cases h2 : atB s k = 33
      · rw [if_pos (Or.inr ⟨by simpa using hlg, h2⟩)]
        have := atB_in (s := s) (k := k) (by rw [h2]; decide)
        exact brk_bang cf hcf e rb cb s k ah lg hb47 w he h hlg h1 h2 (by omega)
      · rw [if_neg (fun h => h.elim h1 fun h => h2 h.2)]
        exact brk_glob cf hcf e rb cb s k ah lg hb47 w he h hlg h1 h2 hks
    · rw [if_neg (fun h => h.elim h1 fun h => hlg (by simpa using h.1))]
      exact brk_plain cf hcf e rb cb s k ah lg hb47 w he h hlg h1 hks
end Go.Proofs.YtopnckfmdjhbjaaDoor
