/- clear; compare on an empty subject; compare in one statement. -/
import Derived.Test.YtoodpajbefffhaaDoorGmM1
import Derived.Test.YtoodpajbefffhaaDoorKSet
import Derived.Lib.SliceRun
/- The contract of compare (gen_cmp.py). -/
namespace Go.Proofs.YtoodpajbefffhaaDoor
open Go.RowKit

theorem rq_nextP (p : Nat → Bool) (B m : Nat) (h0 : wd (rq p B m) ≠ 0) :
    ∃ c, c = Lib.ctz 64 (wd (rq p B m)) ∧ c < 64 ∧ m ≤ c ∧ p (B + c) = true ∧ (∀ j, m ≤ j → j < c → p (B + j) = false) ∧ wd (rq p B m) &&& (wd (rq p B m) - 1) = wd (rq p B (c + 1)) := by
  obtain ⟨hc, hq, hl⟩ := ctz_least _ h0
  obtain ⟨c, h1, h2, _, h4⟩ := rq_next p B m h0
  rw [← h1] at hc hq hl
  have hq' : p (B + c) = true ∧ m ≤ c := by simpa [rq] using hq
  refine ⟨c, h1, h2, hq'.2, hq'.1, fun j hm hj => ?_, h4⟩
  have := hl j hj
  simp only [rq] at this
  rwa [decide_eq_true hm, Bool.and_true] at this
theorem rq_endP (p : Nat → Bool) (B m : Nat) (h0 : wd (rq p B m) = 0) : ∀ j, m ≤ j → j < 64 → p (B + j) = false := fun j hm hj => by
  have h := congrArg (·.testBit j) h0
  simp only [wd_testBit, Nat.zero_testBit] at h
  rw [decide_eq_true hj, Bool.true_and] at h
  simp only [rq] at h
  rwa [decide_eq_true hm, Bool.and_true] at h
theorem rq_start (p : Nat → Bool) (i : Nat) : sw p i = wd (rq p (64 * i) 0) := wd_congr fun j _ => by simp [rq]

def slv (b n : Nat) : Value := .slice (some ⟨b, 0, none⟩) n n
/-- What lies while a piece is compared, up to the place q. -/
structure CI (s : List Int) (x : Pc) (P : Nat → Bool) (w0 : World) (sv : Value) (b1 b2 r bp n t q : Nat) (X : World) : Prop where
  bel : Below w0.heap.size w0 X
  run : X.heap[r]? = some (.cells #[sv, slv b1 n, slv b2 n, .int .i64 (t : Nat)] 81 (0, 0))
  p1 : PL X b1 n P
  p2 : PL X b2 n (andP (stp s x P) (uptoP q))
  box : X.heap[bp]? = some (.cells #[.int .i64 x.kind, .int .u64 (sw x.set 0 : Nat), .int .u64 (sw x.set 1 : Nat), .int .u64 (sw x.set 2 : Nat), .int .u64 (sw x.set 3 : Nat)] 41 (0, 0))
  no : s.length < q → P s.length = false
theorem CI.next {s : List Int} {x : Pc} {P : Nat → Bool} {w0 : World} {sv : Value} {b1 b2 r bp n t q : Nat} {X X' : World} (h : CI s x P w0 sv b1 b2 r bp n t q X) (hb : Below X.heap.size X X') : CI s x P w0 sv b1 b2 r bp n t q X' :=
  ⟨h.bel.trans (hb.mono h.bel.size), blk_below h.run hb, h.p1.kept (hb.block _ h.p1.lt), h.p2.kept (hb.block _ h.p2.lt), blk_below h.box hb, h.no⟩
theorem CI.drew {s : List Int} {x : Pc} {P : Nat → Bool} {w0 : World} {sv : Value} {b1 b2 r bp n t q : Nat} {X : World} (h : CI s x P w0 sv b1 b2 r bp n t q X) : CI s x P w0 sv b1 b2 r bp n t q X.drew := ⟨h.bel.drew, h.run, h.p1, h.p2, h.box, h.no⟩
theorem stp_pred {s : List Int} {x : Pc} (hx : x ≠ .many) {P : Nat → Bool} {k : Nat} (h : stp s x P k = true) : 0 < k ∧ k ≤ s.length ∧ P (k - 1) = true := by
  cases x
  · exact absurd rfl hx
  · simp only [stp, Bool.and_eq_true, decide_eq_true_eq] at h; exact ⟨h.1, h.2.1, h.2.2⟩
  · simp only [stp, Bool.and_eq_true, decide_eq_true_eq] at h; exact ⟨h.1, h.2.1, h.2.2.1⟩
/-- No place between: nothing to do. -/
theorem CI.skip {s : List Int} {x : Pc} (hx : x ≠ .many) {P : Nat → Bool} {w0 : World} {sv : Value} {b1 b2 r bp n t q : Nat} {X : World} (h : CI s x P w0 sv b1 b2 r bp n t q X) {q' : Nat} (hq : q ≤ q') (hn : ∀ j, q ≤ j → j < q' → P j = false) : CI s x P w0 sv b1 b2 r bp n t q' X := by
  refine ⟨h.bel, h.run, h.p1, h.p2.congr fun i _ => sw_congrP fun k _ => ?_, h.box, fun hl => ?_⟩
  · unfold andP uptoP
    cases hs : stp s x P k
    · rfl
    · obtain ⟨h0, h1, h2⟩ := stp_pred hx hs
      by_cases hk : k ≤ q
      · rw [decide_eq_true hk, decide_eq_true (by omega : k ≤ q')]
      · by_cases hk' : k ≤ q'
        · rw [hn (k - 1) (by omega) (by omega)] at h2; cases h2
        · rw [decide_eq_false hk, decide_eq_false hk']
  · by_cases hlq : s.length < q
    · exact h.no hlq
    · exact hn _ (by omega) hl
theorem cntP_to (P : Nat → Bool) {q q' : Nat} (hq : q ≤ q') (hn : ∀ j, q ≤ j → j < q' → P j = false) : cntP P q' = cntP P q := by
  obtain ⟨d, rfl⟩ : ∃ d, q' = q + d := ⟨q' - q, by omega⟩
  exact cntP_skip P q d fun j hj => hn _ (by omega) (by omega)
theorem cells4b {X : World} {b : Nat} {v0 v1 v2 v3 : Value} {T : TypeId} (h : X.heap[b]? = some (.cells #[v0, v1, v2, v3] T (0, 0))) :
    (X.cell? ⟨b, 0, none⟩ = some v0 ∧ X.cell? ⟨b, 1, none⟩ = some v1 ∧ X.cell? ⟨b, 2, none⟩ = some v2 ∧ X.cell? ⟨b, 3, none⟩ = some v3) ∧ X.frozen? ⟨b, 3, none⟩ = false ∧ b < X.heap.size :=
  ⟨⟨by rw [Lib.cell_of_heap h]; rfl, by rw [Lib.cell_of_heap h]; rfl, by rw [Lib.cell_of_heap h]; rfl, by rw [Lib.cell_of_heap h]; rfl⟩, Lib.frozen_of_heap h 3, lt_blkB h⟩
/-- One comparison more is counted. -/
theorem CI.tick {s : List Int} {x : Pc} {P : Nat → Bool} {w0 : World} {sv : Value} {b1 b2 r bp n t q : Nat} {X : World} (h : CI s x P w0 sv b1 b2 r bp n t q X) (hr : w0.heap.size ≤ r) : CI s x P w0 sv b1 b2 r bp n (t + 1) q (X.setCell ⟨r, 3, none⟩ (.int .i64 ((t : Int) + 1))) := by
  have h1 : r ≠ b1 := fun e => by obtain ⟨cs, hb, _⟩ := h.p1; rw [← e, h.run] at hb; simp at hb
  have h2 : r ≠ b2 := fun e => by obtain ⟨cs, hb, _⟩ := h.p2; rw [← e, h.run] at hb; simp at hb
  have h3 : r ≠ bp := fun e => by have hb := h.box; rw [← e, h.run] at hb; simp at hb
  refine ⟨h.bel.setCell hr _, ?_, h.p1.other (fun e => h1 e.symm) _, h.p2.other (fun e => h2 e.symm) _, (Below.heap_setCell _ _ _ _ (fun e => h3 e.symm)).trans h.box, h.no⟩
  show (X.heap.modify _ _)[r]? = _
  rw [Array.getElem?_modify, if_pos rfl, h.run]
  rfl
theorem CI.full {s : List Int} {x : Pc} {P : Nat → Bool} {w0 : World} {sv : Value} {b1 b2 r bp n t q : Nat} {X : World} (h : CI s x P w0 sv b1 b2 r bp n t q X) (hq : s.length ≤ q) : PL X b2 n (stp s x P) := h.p2.congr fun i _ => sw_congrP fun k _ => by
  unfold andP uptoP
  cases hs : stp s x P k
  · rfl
  · have := stp_fits s x P k hs
    rw [decide_eq_true (by omega : k ≤ q)]; rfl
/-- The place's byte is not taken. -/
theorem CI.pass {s : List Int} {x : Pc} {P : Nat → Bool} {w0 : World} {sv : Value} {b1 b2 r bp n t q : Nat} {X : World} (h : CI s x P w0 sv b1 b2 r bp n t q X) (hq : q < s.length) (hs : stp s x P (q + 1) = false) : CI s x P w0 sv b1 b2 r bp n t (q + 1) X :=
  ⟨h.bel, h.run, h.p1, h.p2.congr fun i _ => sw_congrP fun k _ => by
    unfold andP uptoP
    by_cases hk : k = q + 1
    · rw [hk, hs]; rfl
    · congr 1
      rw [Bool.eq_iff_iff]; simp; omega, h.box, fun hl => absurd hl (by omega)⟩
/-- It is taken: one place more. -/
theorem CI.take {s : List Int} {x : Pc} {P : Nat → Bool} {w0 : World} {sv : Value} {b1 b2 r bp n t q : Nat} {X X' : World} (h : CI s x P w0 sv b1 b2 r bp n t q X) (hq : q < s.length) (hs : stp s x P (q + 1) = true) (h12 : b1 ≠ b2) (hb2 : w0.heap.size ≤ b2)
    (hp : PL X' b2 n (plus (andP (stp s x P) (uptoP q)) (q + 1))) (hg : X.grownBy X' (some b2)) : CI s x P w0 sv b1 b2 r bp n t (q + 1) X' := by
  have h2 : r ≠ b2 := fun e => by obtain ⟨cs, hb, _⟩ := h.p2; rw [← e, h.run] at hb; simp at hb
  have h3 : bp ≠ b2 := fun e => by obtain ⟨cs, hb, _⟩ := h.p2; rw [← e, h.box] at hb; simp at hb
  refine ⟨h.bel.grown hg h.bel.size (fun k hk => by obtain rfl := Option.some.inj hk; exact hb2), blk_grown h.run hg (by simpa using fun e : b2 = r => h2 e.symm), h.p1.kept (hg.block _ h.p1.lt (by simpa using h12)), hp.congr fun i _ => sw_congrP fun k _ => ?_, blk_grown h.box hg (by simpa using fun e : b2 = bp => h3 e.symm), fun hl => absurd hl (by omega)⟩
  unfold plus andP uptoP
  by_cases hk : k = q + 1
  · rw [hk, hs]; simp
  · have : (k == q + 1) = false := by simpa using hk
    rw [this, Bool.or_false]
    congr 1
    rw [Bool.eq_iff_iff]; simp; omega

set_option maxRecDepth 100000 in
set_option maxHeartbeats 16000000 in
theorem compare_one (s : List Int) (P : Nat → Bool) (hf : Fits s P) (hlen : s.length ≤ 140737488355328) (vb vo cap b1 b2 r t0 : Nat) (ht : t0 ≤ 4611686018427387904) (w0 w : World) (hT : TZ w0) (hbyt : Byt s) (hrow : Row w0 vb vo s) (hbel : Below w0.heap.size w0 w)
    (hb2 : w0.heap.size ≤ b2) (hr : w0.heap.size ≤ r) (h12 : b1 ≠ b2) (n : Nat) (hn : s.length / 64 + 1 = n)
    (hR : w.heap[r]? = some (.cells #[.slice (some ⟨vb, vo, none⟩) s.length cap, slv b1 n, slv b2 n, .int .i64 (t0 : Nat)] 81 (0, 0))) (hp1 : PL w b1 n P) (hp2 : PL w b2 n (fun _ => false)) :
    Calls Tryd.prog 43 #[.pointer (some ⟨r, 0, none⟩), .agg #[.int .i64 2, .int .u64 (sw noP 0 : Nat), .int .u64 (sw noP 1 : Nat), .int .u64 (sw noP 2 : Nat), .int .u64 (sw noP 3 : Nat)]] w fun e w' => e = .returned (.tuple #[]) ∧ ∃ bp, CI s Pc.one P w0 (.slice (some ⟨vb, vo, none⟩) s.length cap) b1 b2 r bp n (t0 + cntP P s.length) s.length w' := by
  have hne : Pc.one ≠ Pc.many := by intro e; cases e
  obtain ⟨W, hW⟩ : ∃ W, W = w.alloc (.cells #[.int .i64 2, .int .u64 (sw noP 0 : Nat), .int .u64 (sw noP 1 : Nat), .int .u64 (sw noP 2 : Nat), .int .u64 (sw noP 3 : Nat)] 41) := ⟨_, rfl⟩
  have HI0 : Hid (CI s Pc.one P w0 (.slice (some ⟨vb, vo, none⟩) s.length cap) b1 b2 r w.heap.size n (t0 + cntP P 0) 0 W) := Lib.hid (by
    rw [hW]
    refine ⟨hbel.alloc hbel.size _, blk_alloc hR _, hp1.alloc _, (hp2.alloc _).congr fun i _ => sw_congrP fun k _ => ?_, alloc_last w _, fun hl => absurd hl (by omega)⟩
    unfold andP uptoP
    cases hs : stp s Pc.one P k
    · rfl
    · have := (stp_pred hne hs).1
      rw [decide_eq_false (by omega : ¬ k ≤ 0)]; rfl)
  have HT := Lib.hid hT
  have HF := Lib.hid hf
  have HROW := Lib.hid hrow
  have HBY := Lib.hid hbyt
  obtain ⟨len, hlenE⟩ : ∃ l, l = s.length := ⟨_, rfl⟩
  have HLE := Lib.hid hlenE
  have HNE := Lib.hid hne
  have HN : Hid (len / 64 + 1 = n) := Lib.hid (by rw [HLE.out]; exact hn)
  have hnb : n ≤ 2199023255553 := by omega
  have hnl : len < 64 * n := by omega
  rw [← hlenE] at HI0 hR hlen ⊢
  have hc0 := cells4b hR
  obtain ⟨⟨c0, c1, c2, c3⟩, hfz, hrz⟩ := hc0
  clear hlenE hn hT hf hrow hbyt hbel hR hp1 hp2 hne c0 c2 c3 hfz
  unfold slv at c1
  go_enter Tryd.func43, Tryd.ntmps43
  go_wp2_with fail
  rw [← hW]
  clear hW c1 hrz
  go_loopw [12] (fun i X => ∃ k : Nat, k ≤ n ∧ i = .int .i64 k ∧ CI s Pc.one P w0 (.slice (some ⟨vb, vo, none⟩) len cap) b1 b2 r w.heap.size n (t0 + cntP P (64 * k)) (64 * k) X) (fun i _ => n - (intOf i).toNat)
  case atStart => exact ⟨0, Nat.zero_le _, rfl, HI0.out⟩
  case round =>
    obtain ⟨k, hk, rfl, hI⟩ := hrel
    have HI := Lib.hid hI
    clear hI
    obtain ⟨wo, rfl⟩ : ∃ wo : World, wo = wr := ⟨_, rfl⟩
    have cb1 := HI.out.p1
    by_cases hlt : k < n
    · have hcw := cb1.cell hlt
      have hczb := cb1.lt
      have hltI : (k : Int) < (n : Int) := by omega
      have HQ0 := Lib.hid (rq_start P k)
      clear cb1
      generalize sw P k = x0 at *
      go_wp2_with fail
      clear hcw hczb
      go_loopw [5] (fun v X => ∃ m : Nat, m ≤ 64 ∧ v = .int .u64 (wd (rq P (64 * k) m) : Nat) ∧ CI s Pc.one P w0 (.slice (some ⟨vb, vo, none⟩) len cap) b1 b2 r w.heap.size n (t0 + cntP P (64 * k + m)) (64 * k + m) X) (fun v _ => (intOf v).toNat)
      case atStart => exact ⟨0, by omega, by rw [HQ0.out], HI.out⟩
      case round =>
        obtain ⟨m, hm, rfl, hI2⟩ := hrel
        have HI2 := Lib.hid hI2
        clear hI2
        by_cases h0 : wd (rq P (64 * k) m) = 0
        · have hend := rq_endP P (64 * k) m h0
          have hnone : ∀ j, 64 * k + m ≤ j → j < 64 * (k + 1) → P j = false := fun j h1 h2 => by
            have := hend (j - 64 * k) (by omega) (by omega)
            rwa [show 64 * k + (j - 64 * k) = j by omega] at this
          have HI3 : Hid (CI s Pc.one P w0 (.slice (some ⟨vb, vo, none⟩) len cap) b1 b2 r w.heap.size n (t0 + cntP P (64 * (k + 1))) (64 * (k + 1)) wr) := Lib.hid (by
            have := HI2.out.skip HNE.out (q' := 64 * (k + 1)) (by omega) hnone
            rwa [← cntP_to P (q' := 64 * (k + 1)) (by omega) hnone] at this)
          have h1 : (((wd (rq P (64 * k) m) : Nat) : Int) == 0) = true := by rw [h0]; rfl
          have h2 : (((wd (rq P (64 * k) m) : Nat) : Int) != 0) = false := by rw [h0]; rfl
          clear h0 hend hnone
          go_wp2_with fail
          go_roundw
          case rel => exact ⟨k + 1, by omega, by go_num, HI3.out⟩
          case measure => simp [intOf]; omega
        · obtain ⟨c, hc, hc64, hmc, hpc, hno, hand⟩ := rq_nextP P (64 * k) m h0
          obtain ⟨q, hq⟩ : ∃ q, q = 64 * k + c := ⟨_, rfl⟩
          have hnone : ∀ j, 64 * k + m ≤ j → j < q → P j = false := fun j h1 h2 => by
            have := hno (j - 64 * k) (by omega) (by omega)
            rwa [show 64 * k + (j - 64 * k) = j by omega] at this
          have HPQ : Hid (P q = true) := Lib.hid (by rw [hq]; exact hpc)
          have hql : q ≤ len := by have := HF.out q HPQ.out; rw [HLE.out]; exact this
          have HIQ : Hid (CI s Pc.one P w0 (.slice (some ⟨vb, vo, none⟩) len cap) b1 b2 r w.heap.size n (t0 + cntP P q) q wr) := Lib.hid (by
            have := HI2.out.skip HNE.out (q' := q) (by omega) hnone
            rwa [← cntP_to P (q' := q) (by omega) hnone] at this)
          have HC := Lib.hid (tz_any (wd (rq P (64 * k) m)) (wd_lt _) h0 wr (HT.out.below HI2.out.bel))
          rw [← hc] at HC
          have HM : Hid (wd (rq P (64 * k) (c + 1)) < wd (rq P (64 * k) m)) := Lib.hid (by rw [← hand]; exact and_sub_lt _ h0)
          have h1 : (((wd (rq P (64 * k) m) : Nat) : Int) == 0) = false := by simp; omega
          have h2 : (((wd (rq P (64 * k) m) : Nat) : Int) != 0) = true := by simp; omega
          have hp1 : (1 : Int) ≤ (wd (rq P (64 * k) m) : Nat) := by omega
          have hltw := wd_lt (rq P (64 * k) m)
          have ha : bits .and .u64 ((wd (rq P (64 * k) m) : Nat) : Int) (((wd (rq P (64 * k) m) : Nat) : Int) - 1) = ((wd (rq P (64 * k) (c + 1)) : Nat) : Int) := by
            rw [show (((wd (rq P (64 * k) m) : Nat) : Int) - 1) = ((wd (rq P (64 * k) m) - 1 : Nat) : Int) by omega, u64_and_nat _ _ hltw (by omega), hand]
          have hkc : (k : Int) * 64 + (c : Int) = (q : Int) := by omega
          have HQK : Hid (64 * k + (c + 1) = q + 1) := Lib.hid (by omega)
          have hcnt := cntP_le P q
          have hct : t0 + cntP P q ≤ 4611826755915743232 := by omega
          have HCS : Hid (cntP P (q + 1) = cntP P q + 1) := Lib.hid (cntP_step P q HPQ.out)
          clear hc hno hand h0 hpc hnone hq hcnt
          generalize wd (rq P (64 * k) m) = x1 at *
          obtain ⟨y, hy⟩ : ∃ y, y = wd (rq P (64 * k) (c + 1)) := ⟨_, rfl⟩
          rw [← hy] at HM ha
          have HYW := Lib.hid hy
          clear hy
          obtain ⟨tq, htq⟩ : ∃ tq, tq = t0 + cntP P q := ⟨_, rfl⟩
          rw [← htq] at HIQ hct
          have HTQ := Lib.hid htq
          clear htq
          have hcc := cells4b HIQ.out.run
          obtain ⟨⟨c0, c1, c2, c3⟩, hfz, hrz⟩ := hcc
          unfold slv at c1 c2
          go_wp2_with fail
          refine HC.out.mono ?_
          rintro e w3 ⟨rfl, rfl⟩
          by_cases hql2 : q = len
          · have hqI : ((q : Int) == (len : Int)) = true := by rw [hql2]; simp
            have HRES : Hid (CI s Pc.one P w0 (.slice (some ⟨vb, vo, none⟩) len cap) b1 b2 r w.heap.size n (t0 + cntP P len) len w3) := Lib.hid (by
              have := HIQ.out
              rw [HTQ.out, hql2] at this
              exact this)
            clear hql2
            go_wp2
            (try simp only [Exit.inBlock, Exit.then])
            refine bodyPost_ret (results_none rfl _ _ _) rfl ?_
            exact ⟨rfl, _, HRES.out⟩
          · have hqI : ((q : Int) == (len : Int)) = false := by simp; omega
            have hqlt : q < len := by omega
            have HX1 := Lib.hid (HIQ.out.tick hr)
            clear hql2
            go_wp2_with fail
            obtain ⟨X1, hX1⟩ : ∃ X, X = w3.setCell ⟨r, 3, none⟩ (.int .i64 ((tq : Int) + 1)) := ⟨_, rfl⟩
            rw [← hX1] at HX1 ⊢
            clear hX1 c0 c1 c2 c3 hfz hrz
            have HSY : Hid (stp s Pc.one P (q + 1) = true) := Lib.hid (by simp only [stp, Bool.and_eq_true, decide_eq_true_eq]; exact ⟨by omega, by rw [← HLE.out]; omega, HPQ.out⟩)
            refine Reg.wp_region_vals (fun X => CI s Pc.one P w0 (.slice (some ⟨vb, vo, none⟩) len cap) b1 b2 r w.heap.size n (tq + 1) q X) (fun j => ([some (.pointer (some ⟨w.heap.size, 0, none⟩)), some (.int .i64 2), some (.bool true), some (.bool true), some undef, some undef, some undef, some undef, some undef, some undef, some undef, some undef, some undef, some undef, some (.bool true)] : List (Option Value)).getD j none) (fun _ _ _ => True) (by kernel_rfl) (by kernel_rfl) (by kernel_rfl) (by kernel_rfl) ?rs0 ?rsE ?rsZ
            case rs0 => exact HX1.out.drew
            case rsE =>
              refine Reg.EachV.plain rfl (fun T X hS hk K hK => ?_) ?_
              · skip
                have g3 : T[3]? = some (.pointer (some ⟨w.heap.size, 0, none⟩)) := hk.old 3 (by kernel_rfl) rfl
                have hK := hK _ X hS (Reg.Is.of_val rfl) (fun _ _ _ h => h)
                clear hk
                go_simp
                exact hK
              refine Reg.EachV.plain rfl (fun T X hS hk K hK => ?_) ?_
              · skip
                have g42 : T[42]? = some (.pointer (some ⟨w.heap.size, 0, none⟩)) := hk.val 0 42 (by kernel_rfl) (by kernel_rfl) rfl
                have hbx := cells5 (show X.heap[w.heap.size]? = some (.cells #[.int .i64 2, .int .u64 (sw noP 0 : Nat), .int .u64 (sw noP 1 : Nat), .int .u64 (sw noP 2 : Nat), .int .u64 (sw noP 3 : Nat)] 41 (0, 0)) from hS.box)
                obtain ⟨x0c, x1c, x2c, x3c, x4c⟩ := hbx
                have hbz := lt_blkB hS.box
                have hK := hK _ X hS (Reg.Is.of_val rfl) (fun _ _ _ h => h)
                clear hk
                go_simp
                exact hK
              refine Reg.EachV.plain rfl (fun T X hS hk K hK => ?_) ?_
              · skip
                have g43 : T[43]? = some (.int .i64 2) := hk.val 1 43 (by kernel_rfl) (by kernel_rfl) rfl
                have hK := hK _ X hS (Reg.Is.of_val rfl) (fun _ _ _ h => h)
                clear hk
                go_simp
                exact hK
              refine Reg.EachV.plain rfl (fun T X hS hk K hK => ?_) ?_
              · skip
                have g44 : T[44]? = some (.bool true) := hk.val 2 44 (by kernel_rfl) (by kernel_rfl) rfl
                have hK := hK _ X hS (Reg.Is.of_val rfl) (fun _ _ _ h => h)
                clear hk
                go_simp
                exact hK
              refine Reg.EachV.passed 3 45 true rfl (by kernel_rfl) (by kernel_rfl) rfl rfl ?_
              refine Reg.EachV.passed 3 45 true rfl (by kernel_rfl) (by kernel_rfl) rfl rfl ?_
              refine Reg.EachV.passed 3 45 true rfl (by kernel_rfl) (by kernel_rfl) rfl rfl ?_
              refine Reg.EachV.passed 3 45 true rfl (by kernel_rfl) (by kernel_rfl) rfl rfl ?_
              refine Reg.EachV.passed 3 45 true rfl (by kernel_rfl) (by kernel_rfl) rfl rfl ?_
              refine Reg.EachV.passed 3 45 true rfl (by kernel_rfl) (by kernel_rfl) rfl rfl ?_
              refine Reg.EachV.passed 3 45 true rfl (by kernel_rfl) (by kernel_rfl) rfl rfl ?_
              refine Reg.EachV.passed 3 45 true rfl (by kernel_rfl) (by kernel_rfl) rfl rfl ?_
              refine Reg.EachV.passed 3 45 true rfl (by kernel_rfl) (by kernel_rfl) rfl rfl ?_
              refine Reg.EachV.passed 3 45 true rfl (by kernel_rfl) (by kernel_rfl) rfl rfl ?_
              refine Reg.EachV.plain rfl (fun T X hS hk K hK => ?_) ?_
              · skip
                have g45 : T[45]? = some (.bool true) := hk.val 3 45 (by kernel_rfl) (by kernel_rfl) rfl
                have g55 : T[55]? = some (undef) := hk.val 13 55 (by kernel_rfl) (by kernel_rfl) rfl
                have hK := hK _ X hS (Reg.Is.of_val rfl) (fun _ _ _ h => h)
                clear hk
                go_simp
                exact hK
              exact Reg.EachV.nil
            case rsZ =>
              intro u w4 hS hI
              have e0 : u 0 = .pointer (some ⟨w.heap.size, 0, none⟩) := (hI 0 (by decide)).val rfl
              have e1 : u 1 = .int .i64 2 := (hI 1 (by decide)).val rfl
              have e2 : u 2 = .bool true := (hI 2 (by decide)).val rfl
              have e3 : u 3 = .bool true := (hI 3 (by decide)).val rfl
              have e4 : u 4 = undef := (hI 4 (by decide)).val rfl
              have e5 : u 5 = undef := (hI 5 (by decide)).val rfl
              have e6 : u 6 = undef := (hI 6 (by decide)).val rfl
              have e7 : u 7 = undef := (hI 7 (by decide)).val rfl
              have e8 : u 8 = undef := (hI 8 (by decide)).val rfl
              have e9 : u 9 = undef := (hI 9 (by decide)).val rfl
              have e10 : u 10 = undef := (hI 10 (by decide)).val rfl
              have e11 : u 11 = undef := (hI 11 (by decide)).val rfl
              have e12 : u 12 = undef := (hI 12 (by decide)).val rfl
              have e13 : u 13 = undef := (hI 13 (by decide)).val rfl
              have e14 : u 14 = .bool true := (hI 14 (by decide)).val rfl
              clear hI
              simp only [Reg.putAll, Act.put, List.setIfInBounds_toArray, List.set_cons_succ, List.set_cons_zero, Nat.zero_add, Nat.reduceAdd, e0, e1, e2, e3, e4, e5, e6, e7, e8, e9, e10, e11, e12, e13, e14]
              clear e0 e1 e2 e3 e4 e5 e6 e7 e8 e9 e10 e11 e12 e13 e14
              have HX2 := Lib.hid hS
              clear hS
              have HAD := Lib.hid (addP_any b2 n (q + 1) (andP (stp s Pc.one P) (uptoP q)) w4 HX2.out.p2 (by omega) hnb)
              have hq1 : ((q + 1 : Nat) : Int) = (q : Int) + 1 := by omega
              rw [hq1] at HAD
              clear hq1
              have hcc := cells4b HX2.out.run
              obtain ⟨⟨c0, c1, c2, c3⟩, hfz, hrz⟩ := hcc
              unfold slv at c2
              clear c0 c1 c3 hfz
              go_wp2_with fail
              refine HAD.out.mono ?_
              rintro e w5 ⟨rfl, hp5, hg5⟩
              have HX5 : Hid (CI s Pc.one P w0 (.slice (some ⟨vb, vo, none⟩) len cap) b1 b2 r w.heap.size n (t0 + cntP P (64 * k + (c + 1))) (64 * k + (c + 1)) w5) := Lib.hid (by
                rw [HQK.out, HCS.out, ← Nat.add_assoc, ← HTQ.out]
                exact HX2.out.take (by rw [← HLE.out]; exact hqlt) HSY.out h12 hb2 hp5 hg5)
              clear hp5 hg5
              go_wp2
              go_roundw
              case rel => exact ⟨c + 1, by omega, by rw [← HYW.out], HX5.out⟩
              case measure => have := HM.out; simp [intOf]; omega
    · obtain rfl : k = n := by omega
      have HFIN : Hid (CI s Pc.one P w0 (.slice (some ⟨vb, vo, none⟩) len cap) b1 b2 r w.heap.size k (t0 + cntP P len) len wo) := Lib.hid (by
        have h64 : s.length < 64 * k := by rw [← HLE.out]; exact hnl
        have hno := HI.out.no h64
        have hnone : ∀ j, s.length ≤ j → j < 64 * k → P j = false := fun j h1 h2 => by
          by_cases hj : j = s.length
          · rw [hj]; exact hno
          · cases hp : P j
            · rfl
            · have := HF.out j hp; omega
        have h := HI.out
        rw [cntP_to P (q' := 64 * k) (by omega) hnone] at h
        rw [HLE.out] at h ⊢
        exact ⟨h.bel, h.run, h.p1, (h.full (by omega)).congr fun i _ => sw_congrP fun j _ => by
          unfold andP uptoP
          cases hs : stp s Pc.one P j
          · rfl
          · have := stp_fits s _ P j hs
            rw [decide_eq_true (by omega : j ≤ s.length)]; rfl, h.box, fun hl => absurd hl (by omega)⟩)
      clear cb1
      go_wp2
      go_end0
      exact ⟨rfl, _, HFIN.out⟩

set_option maxRecDepth 100000 in
set_option maxHeartbeats 16000000 in
theorem compare_byt (s : List Int) (p : Nat → Bool) (P : Nat → Bool) (hf : Fits s P) (hlen : s.length ≤ 140737488355328) (vb vo cap b1 b2 r t0 : Nat) (ht : t0 ≤ 4611686018427387904) (w0 w : World) (hT : TZ w0) (hbyt : Byt s) (hrow : Row w0 vb vo s) (hbel : Below w0.heap.size w0 w)
    (hb2 : w0.heap.size ≤ b2) (hr : w0.heap.size ≤ r) (h12 : b1 ≠ b2) (n : Nat) (hn : s.length / 64 + 1 = n)
    (hR : w.heap[r]? = some (.cells #[.slice (some ⟨vb, vo, none⟩) s.length cap, slv b1 n, slv b2 n, .int .i64 (t0 : Nat)] 81 (0, 0))) (hp1 : PL w b1 n P) (hp2 : PL w b2 n (fun _ => false)) :
    Calls Tryd.prog 43 #[.pointer (some ⟨r, 0, none⟩), .agg #[.int .i64 1, .int .u64 (sw p 0 : Nat), .int .u64 (sw p 1 : Nat), .int .u64 (sw p 2 : Nat), .int .u64 (sw p 3 : Nat)]] w fun e w' => e = .returned (.tuple #[]) ∧ ∃ bp, CI s (Pc.byt p) P w0 (.slice (some ⟨vb, vo, none⟩) s.length cap) b1 b2 r bp n (t0 + cntP P s.length) s.length w' := by
  have hne : (Pc.byt p) ≠ Pc.many := by intro e; cases e
  obtain ⟨W, hW⟩ : ∃ W, W = w.alloc (.cells #[.int .i64 1, .int .u64 (sw p 0 : Nat), .int .u64 (sw p 1 : Nat), .int .u64 (sw p 2 : Nat), .int .u64 (sw p 3 : Nat)] 41) := ⟨_, rfl⟩
  have HI0 : Hid (CI s (Pc.byt p) P w0 (.slice (some ⟨vb, vo, none⟩) s.length cap) b1 b2 r w.heap.size n (t0 + cntP P 0) 0 W) := Lib.hid (by
    rw [hW]
    refine ⟨hbel.alloc hbel.size _, blk_alloc hR _, hp1.alloc _, (hp2.alloc _).congr fun i _ => sw_congrP fun k _ => ?_, alloc_last w _, fun hl => absurd hl (by omega)⟩
    unfold andP uptoP
    cases hs : stp s (Pc.byt p) P k
    · rfl
    · have := (stp_pred hne hs).1
      rw [decide_eq_false (by omega : ¬ k ≤ 0)]; rfl)
  have HT := Lib.hid hT
  have HF := Lib.hid hf
  have HROW := Lib.hid hrow
  have HBY := Lib.hid hbyt
  obtain ⟨len, hlenE⟩ : ∃ l, l = s.length := ⟨_, rfl⟩
  have HLE := Lib.hid hlenE
  have HNE := Lib.hid hne
  have HN : Hid (len / 64 + 1 = n) := Lib.hid (by rw [HLE.out]; exact hn)
  have hnb : n ≤ 2199023255553 := by omega
  have hnl : len < 64 * n := by omega
  rw [← hlenE] at HI0 hR hlen ⊢
  have hc0 := cells4b hR
  obtain ⟨⟨c0, c1, c2, c3⟩, hfz, hrz⟩ := hc0
  clear hlenE hn hT hf hrow hbyt hbel hR hp1 hp2 hne c0 c2 c3 hfz
  unfold slv at c1
  go_enter Tryd.func43, Tryd.ntmps43
  go_wp2_with fail
  rw [← hW]
  clear hW c1 hrz
  go_loopw [12] (fun i X => ∃ k : Nat, k ≤ n ∧ i = .int .i64 k ∧ CI s (Pc.byt p) P w0 (.slice (some ⟨vb, vo, none⟩) len cap) b1 b2 r w.heap.size n (t0 + cntP P (64 * k)) (64 * k) X) (fun i _ => n - (intOf i).toNat)
  case atStart => exact ⟨0, Nat.zero_le _, rfl, HI0.out⟩
  case round =>
    obtain ⟨k, hk, rfl, hI⟩ := hrel
    have HI := Lib.hid hI
    clear hI
    obtain ⟨wo, rfl⟩ : ∃ wo : World, wo = wr := ⟨_, rfl⟩
    have cb1 := HI.out.p1
    by_cases hlt : k < n
    · have hcw := cb1.cell hlt
      have hczb := cb1.lt
      have hltI : (k : Int) < (n : Int) := by omega
      have HQ0 := Lib.hid (rq_start P k)
      clear cb1
      generalize sw P k = x0 at *
      go_wp2_with fail
      clear hcw hczb
      go_loopw [5] (fun v X => ∃ m : Nat, m ≤ 64 ∧ v = .int .u64 (wd (rq P (64 * k) m) : Nat) ∧ CI s (Pc.byt p) P w0 (.slice (some ⟨vb, vo, none⟩) len cap) b1 b2 r w.heap.size n (t0 + cntP P (64 * k + m)) (64 * k + m) X) (fun v _ => (intOf v).toNat)
      case atStart => exact ⟨0, by omega, by rw [HQ0.out], HI.out⟩
      case round =>
        obtain ⟨m, hm, rfl, hI2⟩ := hrel
        have HI2 := Lib.hid hI2
        clear hI2
        by_cases h0 : wd (rq P (64 * k) m) = 0
        · have hend := rq_endP P (64 * k) m h0
          have hnone : ∀ j, 64 * k + m ≤ j → j < 64 * (k + 1) → P j = false := fun j h1 h2 => by
            have := hend (j - 64 * k) (by omega) (by omega)
            rwa [show 64 * k + (j - 64 * k) = j by omega] at this
          have HI3 : Hid (CI s (Pc.byt p) P w0 (.slice (some ⟨vb, vo, none⟩) len cap) b1 b2 r w.heap.size n (t0 + cntP P (64 * (k + 1))) (64 * (k + 1)) wr) := Lib.hid (by
            have := HI2.out.skip HNE.out (q' := 64 * (k + 1)) (by omega) hnone
            rwa [← cntP_to P (q' := 64 * (k + 1)) (by omega) hnone] at this)
          have h1 : (((wd (rq P (64 * k) m) : Nat) : Int) == 0) = true := by rw [h0]; rfl
          have h2 : (((wd (rq P (64 * k) m) : Nat) : Int) != 0) = false := by rw [h0]; rfl
          clear h0 hend hnone
          go_wp2_with fail
          go_roundw
          case rel => exact ⟨k + 1, by omega, by go_num, HI3.out⟩
          case measure => simp [intOf]; omega
        · obtain ⟨c, hc, hc64, hmc, hpc, hno, hand⟩ := rq_nextP P (64 * k) m h0
          obtain ⟨q, hq⟩ : ∃ q, q = 64 * k + c := ⟨_, rfl⟩
          have hnone : ∀ j, 64 * k + m ≤ j → j < q → P j = false := fun j h1 h2 => by
            have := hno (j - 64 * k) (by omega) (by omega)
            rwa [show 64 * k + (j - 64 * k) = j by omega] at this
          have HPQ : Hid (P q = true) := Lib.hid (by rw [hq]; exact hpc)
          have hql : q ≤ len := by have := HF.out q HPQ.out; rw [HLE.out]; exact this
          have HIQ : Hid (CI s (Pc.byt p) P w0 (.slice (some ⟨vb, vo, none⟩) len cap) b1 b2 r w.heap.size n (t0 + cntP P q) q wr) := Lib.hid (by
            have := HI2.out.skip HNE.out (q' := q) (by omega) hnone
            rwa [← cntP_to P (q' := q) (by omega) hnone] at this)
          have HC := Lib.hid (tz_any (wd (rq P (64 * k) m)) (wd_lt _) h0 wr (HT.out.below HI2.out.bel))
          rw [← hc] at HC
          have HM : Hid (wd (rq P (64 * k) (c + 1)) < wd (rq P (64 * k) m)) := Lib.hid (by rw [← hand]; exact and_sub_lt _ h0)
          have h1 : (((wd (rq P (64 * k) m) : Nat) : Int) == 0) = false := by simp; omega
          have h2 : (((wd (rq P (64 * k) m) : Nat) : Int) != 0) = true := by simp; omega
          have hp1 : (1 : Int) ≤ (wd (rq P (64 * k) m) : Nat) := by omega
          have hltw := wd_lt (rq P (64 * k) m)
          have ha : bits .and .u64 ((wd (rq P (64 * k) m) : Nat) : Int) (((wd (rq P (64 * k) m) : Nat) : Int) - 1) = ((wd (rq P (64 * k) (c + 1)) : Nat) : Int) := by
            rw [show (((wd (rq P (64 * k) m) : Nat) : Int) - 1) = ((wd (rq P (64 * k) m) - 1 : Nat) : Int) by omega, u64_and_nat _ _ hltw (by omega), hand]
          have hkc : (k : Int) * 64 + (c : Int) = (q : Int) := by omega
          have HQK : Hid (64 * k + (c + 1) = q + 1) := Lib.hid (by omega)
          have hcnt := cntP_le P q
          have hct : t0 + cntP P q ≤ 4611826755915743232 := by omega
          have HCS : Hid (cntP P (q + 1) = cntP P q + 1) := Lib.hid (cntP_step P q HPQ.out)
          clear hc hno hand h0 hpc hnone hq hcnt
          generalize wd (rq P (64 * k) m) = x1 at *
          obtain ⟨y, hy⟩ : ∃ y, y = wd (rq P (64 * k) (c + 1)) := ⟨_, rfl⟩
          rw [← hy] at HM ha
          have HYW := Lib.hid hy
          clear hy
          obtain ⟨tq, htq⟩ : ∃ tq, tq = t0 + cntP P q := ⟨_, rfl⟩
          rw [← htq] at HIQ hct
          have HTQ := Lib.hid htq
          clear htq
          have hcc := cells4b HIQ.out.run
          obtain ⟨⟨c0, c1, c2, c3⟩, hfz, hrz⟩ := hcc
          unfold slv at c1 c2
          go_wp2_with fail
          refine HC.out.mono ?_
          rintro e w3 ⟨rfl, rfl⟩
          by_cases hql2 : q = len
          · have hqI : ((q : Int) == (len : Int)) = true := by rw [hql2]; simp
            have HRES : Hid (CI s (Pc.byt p) P w0 (.slice (some ⟨vb, vo, none⟩) len cap) b1 b2 r w.heap.size n (t0 + cntP P len) len w3) := Lib.hid (by
              have := HIQ.out
              rw [HTQ.out, hql2] at this
              exact this)
            clear hql2
            go_wp2
            (try simp only [Exit.inBlock, Exit.then])
            refine bodyPost_ret (results_none rfl _ _ _) rfl ?_
            exact ⟨rfl, _, HRES.out⟩
          · have hqI : ((q : Int) == (len : Int)) = false := by simp; omega
            have hqlt : q < len := by omega
            have HX1 := Lib.hid (HIQ.out.tick hr)
            clear hql2
            go_wp2_with fail
            obtain ⟨X1, hX1⟩ : ∃ X, X = w3.setCell ⟨r, 3, none⟩ (.int .i64 ((tq : Int) + 1)) := ⟨_, rfl⟩
            rw [← hX1] at HX1 ⊢
            clear hX1 c0 c1 c2 c3 hfz hrz
            have hcel := HROW.out q (by rw [← HLE.out]; exact hqlt)
            have hvbz := World.block_lt_of_cell? _ _ hcel
            have hbyq := HBY.out q
            have hqI2 : (q : Int) < (len : Int) := by omega
            have hsp : stp s (Pc.byt p) P (q + 1) = p (s.getD q 0).toNat := by
              show (decide (0 < q + 1) && (decide (q + 1 ≤ s.length) && (P (q + 1 - 1) && p (s.getD (q + 1 - 1) 0).toNat))) = _
              rw [show q + 1 - 1 = q by omega, HPQ.out, decide_eq_true (by omega : 0 < q + 1), decide_eq_true (by rw [← HLE.out]; omega : q + 1 ≤ s.length)]
              simp
            obtain ⟨cN, hcN⟩ : ∃ cN : Nat, s.getD q 0 = (cN : Int) := ⟨(s.getD q 0).toNat, by omega⟩
            rw [hcN] at hcel hbyq hsp
            rw [Int.toNat_natCast] at hsp
            have hcN256 : cN < 256 := by omega
            have HCEL : Hid (∀ X, Below w0.heap.size w0 X → X.cell? ⟨vb, vo + q, none⟩ = some (.int .u8 (cN : Nat)) ∧ vb < X.heap.size) := Lib.hid fun X hX => ⟨by rw [hX.cell (p := ⟨vb, vo + q, none⟩) hvbz]; exact hcel, Nat.lt_of_lt_of_le hvbz hX.size⟩
            have HSP := Lib.hid hsp
            clear hcel hvbz hbyq hsp hcN
            cases hpv : p cN with
            | true =>
              have HSY : Hid (stp s (Pc.byt p) P (q + 1) = true) := Lib.hid (by rw [HSP.out]; exact hpv)
              have HHAS : Hid (∀ X, Calls Tryd.prog 50 #[.agg #[.int .u64 (sw p 0 : Nat), .int .u64 (sw p 1 : Nat), .int .u64 (sw p 2 : Nat), .int .u64 (sw p 3 : Nat)], .int .u8 (cN : Nat)] X fun e w' => e = .returned (.bool true) ∧ Below X.heap.size X w') := Lib.hid fun X => by have := has_any p cN hcN256 X; rw [hpv] at this; exact this
              clear hpv
              refine Reg.wp_region_vals (fun X => CI s (Pc.byt p) P w0 (.slice (some ⟨vb, vo, none⟩) len cap) b1 b2 r w.heap.size n (tq + 1) q X) (fun j => ([some (.pointer (some ⟨w.heap.size, 0, none⟩)), some (.int .i64 1), some (.bool false), some (.bool false), some (.pointer (some ⟨w.heap.size, 1, none⟩)), some (.agg #[.int .u64 (sw p 0 : Nat), .int .u64 (sw p 1 : Nat), .int .u64 (sw p 2 : Nat), .int .u64 (sw p 3 : Nat)]), some (.pointer (some ⟨r, 0, none⟩)), some (.pointer (some ⟨r, 0, none⟩)), some (.pointer (some ⟨r, 0, none⟩)), some (.slice (some ⟨vb, vo, none⟩) len cap), some (.int .i64 (q : Nat)), some (.pointer (some ⟨vb, vo + q, none⟩)), some (.int .u8 (cN : Nat)), some (.bool true), some (.bool true)] : List (Option Value)).getD j none) (fun _ _ _ => True) (by kernel_rfl) (by kernel_rfl) (by kernel_rfl) (by kernel_rfl) ?rs0 ?rsE ?rsZ
              case rs0 => exact HX1.out.drew
              case rsE =>
                refine Reg.EachV.plain rfl (fun T X hS hk K hK => ?_) ?_
                · skip
                  have g3 : T[3]? = some (.pointer (some ⟨w.heap.size, 0, none⟩)) := hk.old 3 (by kernel_rfl) rfl
                  have hK := hK _ X hS (Reg.Is.of_val rfl) (fun _ _ _ h => h)
                  clear hk
                  go_simp
                  exact hK
                refine Reg.EachV.plain rfl (fun T X hS hk K hK => ?_) ?_
                · skip
                  have g42 : T[42]? = some (.pointer (some ⟨w.heap.size, 0, none⟩)) := hk.val 0 42 (by kernel_rfl) (by kernel_rfl) rfl
                  have hbx := cells5 (show X.heap[w.heap.size]? = some (.cells #[.int .i64 1, .int .u64 (sw p 0 : Nat), .int .u64 (sw p 1 : Nat), .int .u64 (sw p 2 : Nat), .int .u64 (sw p 3 : Nat)] 41 (0, 0)) from hS.box)
                  obtain ⟨x0c, x1c, x2c, x3c, x4c⟩ := hbx
                  have hbz := lt_blkB hS.box
                  have hK := hK _ X hS (Reg.Is.of_val rfl) (fun _ _ _ h => h)
                  clear hk
                  go_simp
                  exact hK
                refine Reg.EachV.plain rfl (fun T X hS hk K hK => ?_) ?_
                · skip
                  have g43 : T[43]? = some (.int .i64 1) := hk.val 1 43 (by kernel_rfl) (by kernel_rfl) rfl
                  have hK := hK _ X hS (Reg.Is.of_val rfl) (fun _ _ _ h => h)
                  clear hk
                  go_simp
                  exact hK
                refine Reg.EachV.plain rfl (fun T X hS hk K hK => ?_) ?_
                · skip
                  have g44 : T[44]? = some (.bool false) := hk.val 2 44 (by kernel_rfl) (by kernel_rfl) rfl
                  have hK := hK _ X hS (Reg.Is.of_val rfl) (fun _ _ _ h => h)
                  clear hk
                  go_simp
                  exact hK
                refine Reg.EachV.guarded 3 45 false rfl (by kernel_rfl) (by kernel_rfl) rfl (fun T X hS hk K hK => ?_) ?_
                · skip
                  have g3 : T[3]? = some (.pointer (some ⟨w.heap.size, 0, none⟩)) := hk.old 3 (by kernel_rfl) rfl
                  have hK := hK _ X hS (Reg.Is.of_val rfl) (fun _ _ _ h => h)
                  clear hk
                  go_simp
                  exact hK
                refine Reg.EachV.guarded 3 45 false rfl (by kernel_rfl) (by kernel_rfl) rfl (fun T X hS hk K hK => ?_) ?_
                · skip
                  have g46 : T[46]? = some (.pointer (some ⟨w.heap.size, 1, none⟩)) := hk.val 4 46 (by kernel_rfl) (by kernel_rfl) rfl
                  have hbx := cells5 (show X.heap[w.heap.size]? = some (.cells #[.int .i64 1, .int .u64 (sw p 0 : Nat), .int .u64 (sw p 1 : Nat), .int .u64 (sw p 2 : Nat), .int .u64 (sw p 3 : Nat)] 41 (0, 0)) from hS.box)
                  obtain ⟨x0c, x1c, x2c, x3c, x4c⟩ := hbx
                  have hbz := lt_blkB hS.box
                  have hK := hK _ X hS (Reg.Is.of_val rfl) (fun _ _ _ h => h)
                  clear hk
                  go_simp
                  exact hK
                refine Reg.EachV.guarded 3 45 false rfl (by kernel_rfl) (by kernel_rfl) rfl (fun T X hS hk K hK => ?_) ?_
                · skip
                  have g0 : T[0]? = some (.pointer (some ⟨r, 0, none⟩)) := hk.old 0 (by kernel_rfl) rfl
                  have hK := hK _ X hS (Reg.Is.of_val rfl) (fun _ _ _ h => h)
                  clear hk
                  go_simp
                  exact hK
                refine Reg.EachV.guarded 3 45 false rfl (by kernel_rfl) (by kernel_rfl) rfl (fun T X hS hk K hK => ?_) ?_
                · skip
                  have g48 : T[48]? = some (.pointer (some ⟨r, 0, none⟩)) := hk.val 6 48 (by kernel_rfl) (by kernel_rfl) rfl
                  have hK := hK _ X hS (Reg.Is.of_val rfl) (fun _ _ _ h => h)
                  clear hk
                  go_simp
                  exact hK
                refine Reg.EachV.guarded 3 45 false rfl (by kernel_rfl) (by kernel_rfl) rfl (fun T X hS hk K hK => ?_) ?_
                · skip
                  have g49 : T[49]? = some (.pointer (some ⟨r, 0, none⟩)) := hk.val 7 49 (by kernel_rfl) (by kernel_rfl) rfl
                  have hK := hK _ X hS (Reg.Is.of_val rfl) (fun _ _ _ h => h)
                  clear hk
                  go_simp
                  exact hK
                refine Reg.EachV.guarded 3 45 false rfl (by kernel_rfl) (by kernel_rfl) rfl (fun T X hS hk K hK => ?_) ?_
                · skip
                  have g50 : T[50]? = some (.pointer (some ⟨r, 0, none⟩)) := hk.val 8 50 (by kernel_rfl) (by kernel_rfl) rfl
                  obtain ⟨⟨c0, _, _, _⟩, _, hrz⟩ := cells4b hS.run
                  have hK := hK _ X hS (Reg.Is.of_val rfl) (fun _ _ _ h => h)
                  clear hk
                  go_simp
                  exact hK
                refine Reg.EachV.guarded 3 45 false rfl (by kernel_rfl) (by kernel_rfl) rfl (fun T X hS hk K hK => ?_) ?_
                · skip
                  have g6 : T[6]? = some (.int .i64 (q : Nat)) := hk.old 6 (by kernel_rfl) rfl
                  have hK := hK _ X hS (Reg.Is.of_val rfl) (fun _ _ _ h => h)
                  clear hk
                  go_simp
                  exact hK
                refine Reg.EachV.guarded 3 45 false rfl (by kernel_rfl) (by kernel_rfl) rfl (fun T X hS hk K hK => ?_) ?_
                · skip
                  have g51 : T[51]? = some (.slice (some ⟨vb, vo, none⟩) len cap) := hk.val 9 51 (by kernel_rfl) (by kernel_rfl) rfl
                  have g52 : T[52]? = some (.int .i64 (q : Nat)) := hk.val 10 52 (by kernel_rfl) (by kernel_rfl) rfl
                  have hK := hK _ X hS (Reg.Is.of_val rfl) (fun _ _ _ h => h)
                  clear hk
                  go_simp
                  exact hK
                refine Reg.EachV.guarded 3 45 false rfl (by kernel_rfl) (by kernel_rfl) rfl (fun T X hS hk K hK => ?_) ?_
                · skip
                  have g53 : T[53]? = some (.pointer (some ⟨vb, vo + q, none⟩)) := hk.val 11 53 (by kernel_rfl) (by kernel_rfl) rfl
                  obtain ⟨hcl, hvz⟩ := HCEL.out X hS.bel
                  have hK := hK _ X hS (Reg.Is.of_val rfl) (fun _ _ _ h => h)
                  clear hk
                  go_simp
                  exact hK
                refine Reg.EachV.guarded 3 45 false rfl (by kernel_rfl) (by kernel_rfl) rfl (fun T X hS hk K hK => ?_) ?_
                · skip
                  have g47 : T[47]? = some (.agg #[.int .u64 (sw p 0 : Nat), .int .u64 (sw p 1 : Nat), .int .u64 (sw p 2 : Nat), .int .u64 (sw p 3 : Nat)]) := hk.val 5 47 (by kernel_rfl) (by kernel_rfl) rfl
                  have g54 : T[54]? = some (.int .u8 (cN : Nat)) := hk.val 12 54 (by kernel_rfl) (by kernel_rfl) rfl
                  clear hk
                  go_simp
                  refine (HHAS.out X).mono ?_
                  rintro e w1 ⟨rfl, hb⟩
                  exact hK _ _ (hS.next hb) (Reg.Is.of_val rfl) (fun _ _ _ h => h)
                refine Reg.EachV.plain rfl (fun T X hS hk K hK => ?_) ?_
                · skip
                  have g45 : T[45]? = some (.bool false) := hk.val 3 45 (by kernel_rfl) (by kernel_rfl) rfl
                  have g55 : T[55]? = some (.bool true) := hk.val 13 55 (by kernel_rfl) (by kernel_rfl) rfl
                  have hK := hK _ X hS (Reg.Is.of_val rfl) (fun _ _ _ h => h)
                  clear hk
                  go_simp
                  exact hK
                exact Reg.EachV.nil
              case rsZ =>
                intro u w4 hS hI
                have e0 : u 0 = .pointer (some ⟨w.heap.size, 0, none⟩) := (hI 0 (by decide)).val rfl
                have e1 : u 1 = .int .i64 1 := (hI 1 (by decide)).val rfl
                have e2 : u 2 = .bool false := (hI 2 (by decide)).val rfl
                have e3 : u 3 = .bool false := (hI 3 (by decide)).val rfl
                have e4 : u 4 = .pointer (some ⟨w.heap.size, 1, none⟩) := (hI 4 (by decide)).val rfl
                have e5 : u 5 = .agg #[.int .u64 (sw p 0 : Nat), .int .u64 (sw p 1 : Nat), .int .u64 (sw p 2 : Nat), .int .u64 (sw p 3 : Nat)] := (hI 5 (by decide)).val rfl
                have e6 : u 6 = .pointer (some ⟨r, 0, none⟩) := (hI 6 (by decide)).val rfl
                have e7 : u 7 = .pointer (some ⟨r, 0, none⟩) := (hI 7 (by decide)).val rfl
                have e8 : u 8 = .pointer (some ⟨r, 0, none⟩) := (hI 8 (by decide)).val rfl
                have e9 : u 9 = .slice (some ⟨vb, vo, none⟩) len cap := (hI 9 (by decide)).val rfl
                have e10 : u 10 = .int .i64 (q : Nat) := (hI 10 (by decide)).val rfl
                have e11 : u 11 = .pointer (some ⟨vb, vo + q, none⟩) := (hI 11 (by decide)).val rfl
                have e12 : u 12 = .int .u8 (cN : Nat) := (hI 12 (by decide)).val rfl
                have e13 : u 13 = .bool true := (hI 13 (by decide)).val rfl
                have e14 : u 14 = .bool true := (hI 14 (by decide)).val rfl
                clear hI
                simp only [Reg.putAll, Act.put, List.setIfInBounds_toArray, List.set_cons_succ, List.set_cons_zero, Nat.zero_add, Nat.reduceAdd, e0, e1, e2, e3, e4, e5, e6, e7, e8, e9, e10, e11, e12, e13, e14]
                clear e0 e1 e2 e3 e4 e5 e6 e7 e8 e9 e10 e11 e12 e13 e14
                have HX2 := Lib.hid hS
                clear hS
                have HAD := Lib.hid (addP_any b2 n (q + 1) (andP (stp s (Pc.byt p) P) (uptoP q)) w4 HX2.out.p2 (by omega) hnb)
                have hq1 : ((q + 1 : Nat) : Int) = (q : Int) + 1 := by omega
                rw [hq1] at HAD
                clear hq1
                have hcc := cells4b HX2.out.run
                obtain ⟨⟨c0, c1, c2, c3⟩, hfz, hrz⟩ := hcc
                unfold slv at c2
                clear c0 c1 c3 hfz
                go_wp2_with fail
                refine HAD.out.mono ?_
                rintro e w5 ⟨rfl, hp5, hg5⟩
                have HX5 : Hid (CI s (Pc.byt p) P w0 (.slice (some ⟨vb, vo, none⟩) len cap) b1 b2 r w.heap.size n (t0 + cntP P (64 * k + (c + 1))) (64 * k + (c + 1)) w5) := Lib.hid (by
                  rw [HQK.out, HCS.out, ← Nat.add_assoc, ← HTQ.out]
                  exact HX2.out.take (by rw [← HLE.out]; exact hqlt) HSY.out h12 hb2 hp5 hg5)
                clear hp5 hg5
                go_wp2
                go_roundw
                case rel => exact ⟨c + 1, by omega, by rw [← HYW.out], HX5.out⟩
                case measure => have := HM.out; simp [intOf]; omega
            | false =>
              have HSY : Hid (stp s (Pc.byt p) P (q + 1) = false) := Lib.hid (by rw [HSP.out]; exact hpv)
              have HHAS : Hid (∀ X, Calls Tryd.prog 50 #[.agg #[.int .u64 (sw p 0 : Nat), .int .u64 (sw p 1 : Nat), .int .u64 (sw p 2 : Nat), .int .u64 (sw p 3 : Nat)], .int .u8 (cN : Nat)] X fun e w' => e = .returned (.bool false) ∧ Below X.heap.size X w') := Lib.hid fun X => by have := has_any p cN hcN256 X; rw [hpv] at this; exact this
              clear hpv
              refine Reg.wp_region_vals (fun X => CI s (Pc.byt p) P w0 (.slice (some ⟨vb, vo, none⟩) len cap) b1 b2 r w.heap.size n (tq + 1) q X) (fun j => ([some (.pointer (some ⟨w.heap.size, 0, none⟩)), some (.int .i64 1), some (.bool false), some (.bool false), some (.pointer (some ⟨w.heap.size, 1, none⟩)), some (.agg #[.int .u64 (sw p 0 : Nat), .int .u64 (sw p 1 : Nat), .int .u64 (sw p 2 : Nat), .int .u64 (sw p 3 : Nat)]), some (.pointer (some ⟨r, 0, none⟩)), some (.pointer (some ⟨r, 0, none⟩)), some (.pointer (some ⟨r, 0, none⟩)), some (.slice (some ⟨vb, vo, none⟩) len cap), some (.int .i64 (q : Nat)), some (.pointer (some ⟨vb, vo + q, none⟩)), some (.int .u8 (cN : Nat)), some (.bool false), some (.bool false)] : List (Option Value)).getD j none) (fun _ _ _ => True) (by kernel_rfl) (by kernel_rfl) (by kernel_rfl) (by kernel_rfl) ?rs0 ?rsE ?rsZ
              case rs0 => exact HX1.out.drew
              case rsE =>
                refine Reg.EachV.plain rfl (fun T X hS hk K hK => ?_) ?_
                · skip
                  have g3 : T[3]? = some (.pointer (some ⟨w.heap.size, 0, none⟩)) := hk.old 3 (by kernel_rfl) rfl
                  have hK := hK _ X hS (Reg.Is.of_val rfl) (fun _ _ _ h => h)
                  clear hk
                  go_simp
                  exact hK
                refine Reg.EachV.plain rfl (fun T X hS hk K hK => ?_) ?_
                · skip
                  have g42 : T[42]? = some (.pointer (some ⟨w.heap.size, 0, none⟩)) := hk.val 0 42 (by kernel_rfl) (by kernel_rfl) rfl
                  have hbx := cells5 (show X.heap[w.heap.size]? = some (.cells #[.int .i64 1, .int .u64 (sw p 0 : Nat), .int .u64 (sw p 1 : Nat), .int .u64 (sw p 2 : Nat), .int .u64 (sw p 3 : Nat)] 41 (0, 0)) from hS.box)
                  obtain ⟨x0c, x1c, x2c, x3c, x4c⟩ := hbx
                  have hbz := lt_blkB hS.box
                  have hK := hK _ X hS (Reg.Is.of_val rfl) (fun _ _ _ h => h)
                  clear hk
                  go_simp
                  exact hK
                refine Reg.EachV.plain rfl (fun T X hS hk K hK => ?_) ?_
                · skip
                  have g43 : T[43]? = some (.int .i64 1) := hk.val 1 43 (by kernel_rfl) (by kernel_rfl) rfl
                  have hK := hK _ X hS (Reg.Is.of_val rfl) (fun _ _ _ h => h)
                  clear hk
                  go_simp
                  exact hK
                refine Reg.EachV.plain rfl (fun T X hS hk K hK => ?_) ?_
                · skip
                  have g44 : T[44]? = some (.bool false) := hk.val 2 44 (by kernel_rfl) (by kernel_rfl) rfl
                  have hK := hK _ X hS (Reg.Is.of_val rfl) (fun _ _ _ h => h)
                  clear hk
                  go_simp
                  exact hK
                refine Reg.EachV.guarded 3 45 false rfl (by kernel_rfl) (by kernel_rfl) rfl (fun T X hS hk K hK => ?_) ?_
                · skip
                  have g3 : T[3]? = some (.pointer (some ⟨w.heap.size, 0, none⟩)) := hk.old 3 (by kernel_rfl) rfl
                  have hK := hK _ X hS (Reg.Is.of_val rfl) (fun _ _ _ h => h)
                  clear hk
                  go_simp
                  exact hK
                refine Reg.EachV.guarded 3 45 false rfl (by kernel_rfl) (by kernel_rfl) rfl (fun T X hS hk K hK => ?_) ?_
                · skip
                  have g46 : T[46]? = some (.pointer (some ⟨w.heap.size, 1, none⟩)) := hk.val 4 46 (by kernel_rfl) (by kernel_rfl) rfl
                  have hbx := cells5 (show X.heap[w.heap.size]? = some (.cells #[.int .i64 1, .int .u64 (sw p 0 : Nat), .int .u64 (sw p 1 : Nat), .int .u64 (sw p 2 : Nat), .int .u64 (sw p 3 : Nat)] 41 (0, 0)) from hS.box)
                  obtain ⟨x0c, x1c, x2c, x3c, x4c⟩ := hbx
                  have hbz := lt_blkB hS.box
                  have hK := hK _ X hS (Reg.Is.of_val rfl) (fun _ _ _ h => h)
                  clear hk
                  go_simp
                  exact hK
                refine Reg.EachV.guarded 3 45 false rfl (by kernel_rfl) (by kernel_rfl) rfl (fun T X hS hk K hK => ?_) ?_
                · skip
                  have g0 : T[0]? = some (.pointer (some ⟨r, 0, none⟩)) := hk.old 0 (by kernel_rfl) rfl
                  have hK := hK _ X hS (Reg.Is.of_val rfl) (fun _ _ _ h => h)
                  clear hk
                  go_simp
                  exact hK
                refine Reg.EachV.guarded 3 45 false rfl (by kernel_rfl) (by kernel_rfl) rfl (fun T X hS hk K hK => ?_) ?_
                · skip
                  have g48 : T[48]? = some (.pointer (some ⟨r, 0, none⟩)) := hk.val 6 48 (by kernel_rfl) (by kernel_rfl) rfl
                  have hK := hK _ X hS (Reg.Is.of_val rfl) (fun _ _ _ h => h)
                  clear hk
                  go_simp
                  exact hK
                refine Reg.EachV.guarded 3 45 false rfl (by kernel_rfl) (by kernel_rfl) rfl (fun T X hS hk K hK => ?_) ?_
                · skip
                  have g49 : T[49]? = some (.pointer (some ⟨r, 0, none⟩)) := hk.val 7 49 (by kernel_rfl) (by kernel_rfl) rfl
                  have hK := hK _ X hS (Reg.Is.of_val rfl) (fun _ _ _ h => h)
                  clear hk
                  go_simp
                  exact hK
                refine Reg.EachV.guarded 3 45 false rfl (by kernel_rfl) (by kernel_rfl) rfl (fun T X hS hk K hK => ?_) ?_
                · skip
                  have g50 : T[50]? = some (.pointer (some ⟨r, 0, none⟩)) := hk.val 8 50 (by kernel_rfl) (by kernel_rfl) rfl
                  obtain ⟨⟨c0, _, _, _⟩, _, hrz⟩ := cells4b hS.run
                  have hK := hK _ X hS (Reg.Is.of_val rfl) (fun _ _ _ h => h)
                  clear hk
                  go_simp
                  exact hK
                refine Reg.EachV.guarded 3 45 false rfl (by kernel_rfl) (by kernel_rfl) rfl (fun T X hS hk K hK => ?_) ?_
                · skip
                  have g6 : T[6]? = some (.int .i64 (q : Nat)) := hk.old 6 (by kernel_rfl) rfl
                  have hK := hK _ X hS (Reg.Is.of_val rfl) (fun _ _ _ h => h)
                  clear hk
                  go_simp
                  exact hK
                refine Reg.EachV.guarded 3 45 false rfl (by kernel_rfl) (by kernel_rfl) rfl (fun T X hS hk K hK => ?_) ?_
                · skip
                  have g51 : T[51]? = some (.slice (some ⟨vb, vo, none⟩) len cap) := hk.val 9 51 (by kernel_rfl) (by kernel_rfl) rfl
                  have g52 : T[52]? = some (.int .i64 (q : Nat)) := hk.val 10 52 (by kernel_rfl) (by kernel_rfl) rfl
                  have hK := hK _ X hS (Reg.Is.of_val rfl) (fun _ _ _ h => h)
                  clear hk
                  go_simp
                  exact hK
                refine Reg.EachV.guarded 3 45 false rfl (by kernel_rfl) (by kernel_rfl) rfl (fun T X hS hk K hK => ?_) ?_
                · skip
                  have g53 : T[53]? = some (.pointer (some ⟨vb, vo + q, none⟩)) := hk.val 11 53 (by kernel_rfl) (by kernel_rfl) rfl
                  obtain ⟨hcl, hvz⟩ := HCEL.out X hS.bel
                  have hK := hK _ X hS (Reg.Is.of_val rfl) (fun _ _ _ h => h)
                  clear hk
                  go_simp
                  exact hK
                refine Reg.EachV.guarded 3 45 false rfl (by kernel_rfl) (by kernel_rfl) rfl (fun T X hS hk K hK => ?_) ?_
                · skip
                  have g47 : T[47]? = some (.agg #[.int .u64 (sw p 0 : Nat), .int .u64 (sw p 1 : Nat), .int .u64 (sw p 2 : Nat), .int .u64 (sw p 3 : Nat)]) := hk.val 5 47 (by kernel_rfl) (by kernel_rfl) rfl
                  have g54 : T[54]? = some (.int .u8 (cN : Nat)) := hk.val 12 54 (by kernel_rfl) (by kernel_rfl) rfl
                  clear hk
                  go_simp
                  refine (HHAS.out X).mono ?_
                  rintro e w1 ⟨rfl, hb⟩
                  exact hK _ _ (hS.next hb) (Reg.Is.of_val rfl) (fun _ _ _ h => h)
                refine Reg.EachV.plain rfl (fun T X hS hk K hK => ?_) ?_
                · skip
                  have g45 : T[45]? = some (.bool false) := hk.val 3 45 (by kernel_rfl) (by kernel_rfl) rfl
                  have g55 : T[55]? = some (.bool false) := hk.val 13 55 (by kernel_rfl) (by kernel_rfl) rfl
                  have hK := hK _ X hS (Reg.Is.of_val rfl) (fun _ _ _ h => h)
                  clear hk
                  go_simp
                  exact hK
                exact Reg.EachV.nil
              case rsZ =>
                intro u w4 hS hI
                have e0 : u 0 = .pointer (some ⟨w.heap.size, 0, none⟩) := (hI 0 (by decide)).val rfl
                have e1 : u 1 = .int .i64 1 := (hI 1 (by decide)).val rfl
                have e2 : u 2 = .bool false := (hI 2 (by decide)).val rfl
                have e3 : u 3 = .bool false := (hI 3 (by decide)).val rfl
                have e4 : u 4 = .pointer (some ⟨w.heap.size, 1, none⟩) := (hI 4 (by decide)).val rfl
                have e5 : u 5 = .agg #[.int .u64 (sw p 0 : Nat), .int .u64 (sw p 1 : Nat), .int .u64 (sw p 2 : Nat), .int .u64 (sw p 3 : Nat)] := (hI 5 (by decide)).val rfl
                have e6 : u 6 = .pointer (some ⟨r, 0, none⟩) := (hI 6 (by decide)).val rfl
                have e7 : u 7 = .pointer (some ⟨r, 0, none⟩) := (hI 7 (by decide)).val rfl
                have e8 : u 8 = .pointer (some ⟨r, 0, none⟩) := (hI 8 (by decide)).val rfl
                have e9 : u 9 = .slice (some ⟨vb, vo, none⟩) len cap := (hI 9 (by decide)).val rfl
                have e10 : u 10 = .int .i64 (q : Nat) := (hI 10 (by decide)).val rfl
                have e11 : u 11 = .pointer (some ⟨vb, vo + q, none⟩) := (hI 11 (by decide)).val rfl
                have e12 : u 12 = .int .u8 (cN : Nat) := (hI 12 (by decide)).val rfl
                have e13 : u 13 = .bool false := (hI 13 (by decide)).val rfl
                have e14 : u 14 = .bool false := (hI 14 (by decide)).val rfl
                clear hI
                simp only [Reg.putAll, Act.put, List.setIfInBounds_toArray, List.set_cons_succ, List.set_cons_zero, Nat.zero_add, Nat.reduceAdd, e0, e1, e2, e3, e4, e5, e6, e7, e8, e9, e10, e11, e12, e13, e14]
                clear e0 e1 e2 e3 e4 e5 e6 e7 e8 e9 e10 e11 e12 e13 e14
                have HX2 := Lib.hid hS
                clear hS
                have HX5 : Hid (CI s (Pc.byt p) P w0 (.slice (some ⟨vb, vo, none⟩) len cap) b1 b2 r w.heap.size n (t0 + cntP P (64 * k + (c + 1))) (64 * k + (c + 1)) w4) := Lib.hid (by
                  rw [HQK.out, HCS.out, ← Nat.add_assoc, ← HTQ.out]
                  exact HX2.out.pass (by rw [← HLE.out]; exact hqlt) HSY.out)
                go_wp2
                go_roundw
                case rel => exact ⟨c + 1, by omega, by rw [← HYW.out], HX5.out⟩
                case measure => have := HM.out; simp [intOf]; omega
    · obtain rfl : k = n := by omega
      have HFIN : Hid (CI s (Pc.byt p) P w0 (.slice (some ⟨vb, vo, none⟩) len cap) b1 b2 r w.heap.size k (t0 + cntP P len) len wo) := Lib.hid (by
        have h64 : s.length < 64 * k := by rw [← HLE.out]; exact hnl
        have hno := HI.out.no h64
        have hnone : ∀ j, s.length ≤ j → j < 64 * k → P j = false := fun j h1 h2 => by
          by_cases hj : j = s.length
          · rw [hj]; exact hno
          · cases hp : P j
            · rfl
            · have := HF.out j hp; omega
        have h := HI.out
        rw [cntP_to P (q' := 64 * k) (by omega) hnone] at h
        rw [HLE.out] at h ⊢
        exact ⟨h.bel, h.run, h.p1, (h.full (by omega)).congr fun i _ => sw_congrP fun j _ => by
          unfold andP uptoP
          cases hs : stp s (Pc.byt p) P j
          · rfl
          · have := stp_fits s _ P j hs
            rw [decide_eq_true (by omega : j ≤ s.length)]; rfl, h.box, fun hl => absurd hl (by omega)⟩)
      clear cb1
      go_wp2
      go_end0
      exact ⟨rfl, _, HFIN.out⟩

end Go.Proofs.YtoodpajbefffhaaDoor
namespace Go.Proofs.YtoodpajbefffhaaDoor
open Go.RowKit

def clrP (P : Nat → Bool) (o m k : Nat) : Bool := P k && !(decide (o ≤ k / 64) && decide (k / 64 < o + m))
theorem PL.zeros {b n : Nat} : ∀ (m o : Nat) (w : World) (P : Nat → Bool), PL w b n P → PL (w.setCells b o (List.replicate m (.int .u64 0))) b n (clrP P o m) ∧ w.grownBy (w.setCells b o (List.replicate m (.int .u64 0))) (some b)
  | 0, o, w, P, h => ⟨h.congr fun i _ => sw_congrP fun k _ => by
      unfold clrP
      have : (decide (o ≤ k / 64) && decide (k / 64 < o + 0)) = false := by rw [Bool.eq_false_iff]; simp
      rw [this]; simp, gb_refl w b⟩
  | m + 1, o, w, P, h => by
    have h1 : PL (w.setCell ⟨b, o, none⟩ (.int .u64 0)) b n (clrP P o 1) := by
      have := h.set o (clrP P o 1) fun i hi hne => sw_congrP fun k hk => by
        unfold clrP
        have : (decide (o ≤ k / 64) && decide (k / 64 < o + 1)) = false := by rw [Bool.eq_false_iff]; simp; omega
        rw [this]; simp
      have e : sw (clrP P o 1) o = 0 := by
        have e2 : sw (clrP P o 1) o = sw (fun _ => false) o := sw_congrP fun k hk => by
          unfold clrP
          have : (decide (o ≤ k / 64) && decide (k / 64 < o + 1)) = true := by simp; omega
          rw [this]; simp
        rw [e2]
        have := sw_zero o
        simpa [noP] using this
      rw [e] at this
      exact this
    obtain ⟨h2, h3⟩ := PL.zeros m (o + 1) _ _ h1
    refine ⟨?_, gb_trans (grown_set w b o (.int .u64 0)) h3⟩
    refine PL.congr (show PL (w.setCells b o (List.replicate (m + 1) (.int .u64 0))) b n (clrP (clrP P o 1) (o + 1) m) from h2) fun i _ => sw_congrP fun k _ => ?_
    have e : (decide (o ≤ k / 64) && decide (k / 64 < o + (m + 1))) = ((decide (o ≤ k / 64) && decide (k / 64 < o + 1)) || (decide (o + 1 ≤ k / 64) && decide (k / 64 < o + 1 + m))) := by
      rw [Bool.eq_iff_iff]
      simp only [Bool.and_eq_true, Bool.or_eq_true, decide_eq_true_eq]
      omega
    unfold clrP
    rw [e, Bool.not_or, Bool.and_assoc]
theorem PL.clear {w : World} {b n : Nat} {P : Nat → Bool} (h : PL w b n P) : PL (w.setCells b 0 (List.replicate n (.int .u64 0))) b n (fun _ => false) ∧ w.grownBy (w.setCells b 0 (List.replicate n (.int .u64 0))) (some b) := by
  obtain ⟨h1, h2⟩ := PL.zeros n 0 w P h
  refine ⟨h1.congr fun i hi => sw_congrP fun k hk => ?_, h2⟩
  unfold clrP
  have : (decide (0 ≤ k / 64) && decide (k / 64 < 0 + n)) = true := by simp; omega
  rw [this]; simp
theorem zero64 : ∀ w : World, (zeroValue 37).run Tryd.prog w = .ok (.int .u64 0) w := by intro w; kernel_rfl
theorem clear_run {w : World} {b n : Nat} {P : Nat → Bool} (h : PL w b n P) (hn : 0 < n) (ty : TypeId) :
    (Builtin.clear_ #[67] ty #[.slice (some ⟨b, 0, none⟩) n n]).run Tryd.prog w = .ok (.tuple #[]) (w.setCells b 0 (List.replicate n (.int .u64 0))) :=
  Lib.run_clear_slice w 67 37 ty (.int .u64 0) Tryd.underlying67 zero64 rfl rfl b 0 n n hn (fun j hj => by rw [Nat.zero_add, h.cell hj]; rfl) (fun j _ => h.free _)

set_option maxRecDepth 100000 in
set_option maxHeartbeats 8000000 in
/-- Nothing to compare with. -/
theorem compare_nil (x : Pc) (hne : x ≠ .many) (P : Nat → Bool) (hf : Fits [] P) (hp0 : P 0 = true) (va : Option Addr) (cap b1 b2 r t0 : Nat) (w0 w : World) (hT : TZ w0) (hbel : Below w0.heap.size w0 w)
    (hR : w.heap[r]? = some (.cells #[.slice va 0 cap, slv b1 1, slv b2 1, .int .i64 (t0 : Nat)] 81 (0, 0))) (hp1 : PL w b1 1 P) (hp2 : PL w b2 1 (fun _ => false)) :
    Calls Tryd.prog 43 #[.pointer (some ⟨r, 0, none⟩), .agg #[.int .i64 x.kind, .int .u64 (sw x.set 0 : Nat), .int .u64 (sw x.set 1 : Nat), .int .u64 (sw x.set 2 : Nat), .int .u64 (sw x.set 3 : Nat)]] w fun e w' => e = .returned (.tuple #[]) ∧ ∃ bp, CI [] x P w0 (.slice va 0 cap) b1 b2 r bp 1 (t0 + cntP P 0) 0 w' := by
  have hsw : sw P 0 = 1 := by
    have e : sw P 0 = wd (fun j => j == 0) := wd_congr fun j hj => by
      by_cases h0 : j = 0
      · subst h0; simpa using hp0
      · have : P (64 * 0 + j) = false := by
          cases hp : P (64 * 0 + j)
          · rfl
          · have := hf _ hp; simp at this; exact absurd this h0
        rw [this]; simp [h0]
    rw [e, ← wd_one 0 (by decide)]
  have HTZ : Hid (∀ X, Below w0.heap.size w0 X → Calls Tryd.prog 49 #[.int .u64 1] X fun e w' => e = .returned (.int .i64 0) ∧ w' = X) := Lib.hid fun X hX => by
    have := tz_any 1 (by decide) (by decide) X (hT.below hX)
    rw [show Lib.ctz 64 1 = 0 from by kernel_rfl] at this
    exact this
  have HFIN : Hid (CI [] x P w0 (.slice va 0 cap) b1 b2 r w.heap.size 1 (t0 + cntP P 0) 0 (w.alloc (.cells #[.int .i64 x.kind, .int .u64 (sw x.set 0 : Nat), .int .u64 (sw x.set 1 : Nat), .int .u64 (sw x.set 2 : Nat), .int .u64 (sw x.set 3 : Nat)] 41))) := Lib.hid (by
    refine ⟨hbel.alloc hbel.size _, blk_alloc hR _, hp1.alloc _, (hp2.alloc _).congr fun i _ => sw_congrP fun k _ => ?_, alloc_last w _, fun hl => absurd hl (by simp)⟩
    unfold andP uptoP
    cases hs : stp [] x P k
    · rfl
    · have := (stp_pred hne hs).1
      rw [decide_eq_false (by omega : ¬ k ≤ 0)]; rfl)
  have HBE : Hid (Below w0.heap.size w0 (w.alloc (.cells #[.int .i64 x.kind, .int .u64 (sw x.set 0 : Nat), .int .u64 (sw x.set 1 : Nat), .int .u64 (sw x.set 2 : Nat), .int .u64 (sw x.set 3 : Nat)] 41))) := Lib.hid (hbel.alloc hbel.size _)
  have hcw := hp1.cell (show 0 < 1 by decide)
  rw [hsw] at hcw
  have hbz := hp1.lt
  obtain ⟨⟨c0, c1, c2, c3⟩, hfz, hrz⟩ := cells4b hR
  unfold slv at c1 c2
  clear hR hp1 hp2 hbel hT hf hp0 hne hsw
  generalize x.kind = kd at *
  generalize sw x.set 0 = x0 at *
  generalize sw x.set 1 = x1 at *
  generalize sw x.set 2 = x2 at *
  generalize sw x.set 3 = x3 at *
  go_enter Tryd.func43, Tryd.ntmps43
  go_wp2_with fail
  refine wp_loop_rounds 1 ?_
  rw [rounds_succ]
  go_wp2_with fail
  refine wp_loop_rounds 1 ?_
  rw [rounds_succ]
  go_wp2_with fail
  refine (HTZ.out _ HBE.out).mono ?_
  rintro e w3 ⟨rfl, rfl⟩
  go_wp2
  (try simp only [Exit.inBlock, Exit.then])
  refine bodyPost_ret (results_none rfl _ _ _) rfl ?_
  exact ⟨rfl, _, HFIN.out⟩

/-- compare, said in one. -/
theorem cmp_any (s : List Int) (x : Pc) (hne : x ≠ .many) (P : Nat → Bool) (hf : Fits s P) (k0 : Nat) (hk0 : P k0 = true) (hlen : s.length ≤ 140737488355328) (sv : Value) (b1 b2 r t0 : Nat) (ht : t0 ≤ 4611686018427387904) (w0 w : World) (hT : TZ w0) (hs : Sl w0 sv s) (hbel : Below w0.heap.size w0 w)
    (hb2 : w0.heap.size ≤ b2) (hr : w0.heap.size ≤ r) (h12 : b1 ≠ b2) (n : Nat) (hn : s.length / 64 + 1 = n)
    (hR : w.heap[r]? = some (.cells #[sv, slv b1 n, slv b2 n, .int .i64 (t0 : Nat)] 81 (0, 0))) (hp1 : PL w b1 n P) (hp2 : PL w b2 n (fun _ => false)) :
    Calls Tryd.prog 43 #[.pointer (some ⟨r, 0, none⟩), x.v] w fun e w' => e = .returned (.tuple #[]) ∧ ∃ bp, CI s x P w0 sv b1 b2 r bp n (t0 + cntP P s.length) s.length w' := by
  rcases hs.2.2 with ⟨rfl, a, cap, rfl⟩ | ⟨vb, vo, cap, rfl, _, _, hrow⟩
  · have hk : k0 = 0 := by have := hf k0 hk0; simpa using this
    subst hk
    obtain rfl : n = 1 := by rw [← hn]; rfl
    exact compare_nil x hne P hf hk0 a cap b1 b2 r t0 w0 w hT hbel hR hp1 hp2
  · cases x with
    | many => exact absurd rfl hne
    | one => exact compare_one s P hf hlen vb vo cap b1 b2 r t0 ht w0 w hT hs.1 hrow hbel hb2 hr h12 n hn hR hp1 hp2
    | byt p => exact compare_byt s p P hf hlen vb vo cap b1 b2 r t0 ht w0 w hT hs.1 hrow hbel hb2 hr h12 n hn hR hp1 hp2
end Go.Proofs.YtoodpajbefffhaaDoor
