/- The contract of bin. -/
import Derived.Test.YtlmoeldillpamaaDoorArOpd
import Derived.Deep.LoopGhost
namespace Go.Proofs.YtlmoeldillpamaaDoor
open Go.RowKit

/-- The tree lies in memory, in blocks that are such. -/
def Tr.InP (w : World) (P : Nat → Prop) : Tr → Value → Prop
  | .num _ _, kv => kv = .slice none 0 0
  | .name _ _, kv => kv = .slice none 0 0
  | .un _ _ a, kv => ∃ k ka, kv = .slice (some ⟨k, 0, none⟩) 1 1 ∧ P k ∧ w.heap[k]? = some (.cells (a.cells ka).toArray 36) ∧ a.InP w P ka
  | .bin _ _ a b, kv => ∃ k ka kb, kv = .slice (some ⟨k, 0, none⟩) 2 2 ∧ P k ∧ w.heap[k]? = some (.cells (a.cells ka ++ b.cells kb).toArray 36) ∧ a.InP w P ka ∧ b.InP w P kb
  | .cond _ _ a b c, kv => ∃ k ka kb kc, kv = .slice (some ⟨k, 0, none⟩) 3 3 ∧ P k ∧ w.heap[k]? = some (.cells (a.cells ka ++ b.cells kb ++ c.cells kc).toArray 36) ∧ a.InP w P ka ∧ b.InP w P kb ∧ c.InP w P kc
  | .asg _ _ _ _ a, kv => ∃ k ka, kv = .slice (some ⟨k, 0, none⟩) 1 1 ∧ P k ∧ w.heap[k]? = some (.cells (a.cells ka).toArray 36) ∧ a.InP w P ka
theorem Tr.In.toP {w : World} {lo : Nat} {P : Nat → Prop} (h : ∀ k, lo ≤ k → k < w.heap.size → P k) : ∀ (t : Tr) (kv : Value), t.In w lo kv → t.InP w P kv
  | .num _ _, _, hi => hi
  | .name _ _, _, hi => hi
  | .un _ _ a, _, ⟨k, ka, e, hl, hk, ha⟩ => ⟨k, ka, e, h k hl (lt_of_heap hk), hk, Tr.In.toP h a ka ha⟩
  | .bin _ _ a b, _, ⟨k, ka, kb, e, hl, hk, ha, hb⟩ => ⟨k, ka, kb, e, h k hl (lt_of_heap hk), hk, Tr.In.toP h a ka ha, Tr.In.toP h b kb hb⟩
  | .cond _ _ a b c, _, ⟨k, ka, kb, kc, e, hl, hk, ha, hb, hc⟩ => ⟨k, ka, kb, kc, e, h k hl (lt_of_heap hk), hk, Tr.In.toP h a ka ha, Tr.In.toP h b kb hb, Tr.In.toP h c kc hc⟩
  | .asg _ _ _ _ a, _, ⟨k, ka, e, hl, hk, ha⟩ => ⟨k, ka, e, h k hl (lt_of_heap hk), hk, Tr.In.toP h a ka ha⟩
theorem Tr.InP.to {w : World} {lo : Nat} {P : Nat → Prop} (h : ∀ k, P k → lo ≤ k) : ∀ (t : Tr) (kv : Value), t.InP w P kv → t.In w lo kv
  | .num _ _, _, hi => hi
  | .name _ _, _, hi => hi
  | .un _ _ a, _, ⟨k, ka, e, hl, hk, ha⟩ => ⟨k, ka, e, h k hl, hk, Tr.InP.to h a ka ha⟩
  | .bin _ _ a b, _, ⟨k, ka, kb, e, hl, hk, ha, hb⟩ => ⟨k, ka, kb, e, h k hl, hk, Tr.InP.to h a ka ha, Tr.InP.to h b kb hb⟩
  | .cond _ _ a b c, _, ⟨k, ka, kb, kc, e, hl, hk, ha, hb, hc⟩ => ⟨k, ka, kb, kc, e, h k hl, hk, Tr.InP.to h a ka ha, Tr.InP.to h b kb hb, Tr.InP.to h c kc hc⟩
  | .asg _ _ _ _ a, _, ⟨k, ka, e, hl, hk, ha⟩ => ⟨k, ka, e, h k hl, hk, Tr.InP.to h a ka ha⟩
theorem Tr.InP.kept {w w' : World} {P : Nat → Prop} (h : ∀ k, P k → k < w.heap.size → w'.heap[k]? = w.heap[k]?) : ∀ (t : Tr) (kv : Value), t.InP w P kv → t.InP w' P kv
  | .num _ _, _, hi => hi
  | .name _ _, _, hi => hi
  | .un _ _ a, _, ⟨k, ka, e, hl, hk, ha⟩ => ⟨k, ka, e, hl, (h k hl (lt_of_heap hk)).trans hk, Tr.InP.kept h a ka ha⟩
  | .bin _ _ a b, _, ⟨k, ka, kb, e, hl, hk, ha, hb⟩ => ⟨k, ka, kb, e, hl, (h k hl (lt_of_heap hk)).trans hk, Tr.InP.kept h a ka ha, Tr.InP.kept h b kb hb⟩
  | .cond _ _ a b c, _, ⟨k, ka, kb, kc, e, hl, hk, ha, hb, hc⟩ => ⟨k, ka, kb, kc, e, hl, (h k hl (lt_of_heap hk)).trans hk, Tr.InP.kept h a ka ha, Tr.InP.kept h b kb hb, Tr.InP.kept h c kc hc⟩
  | .asg _ _ _ _ a, _, ⟨k, ka, e, hl, hk, ha⟩ => ⟨k, ka, e, hl, (h k hl (lt_of_heap hk)).trans hk, Tr.InP.kept h a ka ha⟩

theorem rowFrom_le (s : ByteArray) : ∀ (L : List (List ByteArray)) (k : Nat), rowFrom s L k ≤ k + L.length
  | [], _ => by simp [rowFrom]
  | r :: L, k => by
    unfold rowFrom
    have := rowFrom_le s L (k + 1)
    split
    · simp
    · simp at this ⊢; omega
theorem strN_le (s : ByteArray) : strN s ≤ 10 := by have := rowFrom_le s opRows 0; simpa [opRows, strN] using this

/-- What holds whenever the loop looks at the next operator. -/
def BinR (l : List Int) (rb : Nat) (bv : Value) (least n : Nat) (w : World) (A : Nat) (res : Rs) (k : Nat) (wr : World) : Prop :=
  k ≤ n ∧ ∃ left t o m, rd l k (.loop least left) t = some res ∧ Kp rb w wr [(A, arO left (.slice o m m)), (w.heap.size, zrO)] ∧ w.heap.size < A ∧ left.InP wr (fun b => w.heap.size + 1 ≤ b ∧ b ≠ A) (.slice o m m) ∧ Rd wr rb bv t ∧ t.stop ≤ l.length

/-- A tree whose cells lie in a block of their own, and that block alone is turned. -/
theorem Kp.setA {rb : Nat} {w W : World} {A : Nat} {x : Obj} {cs c' : Array Value} {ty : TypeId} (h : Kp rb w W [(A, .cells cs ty), (w.heap.size, x)]) (hA : w.heap.size < A) (hrb : rb < w.heap.size) : Kp rb w (W.setRow A c') [(A, .cells c' ty), (w.heap.size, x)] where
  ch := h.ch.setRow (Nat.le_of_lt hA) (by omega) c'
  all := fun y hy => by
    rcases List.mem_cons.1 hy with rfl | hy
    · exact ⟨setRow_self (h.at (List.mem_cons_self ..)) c', Nat.le_of_lt hA⟩
    · obtain rfl := List.mem_singleton.1 hy
      refine ⟨?_, Nat.le_refl _⟩
      show (W.heap.modify A _)[w.heap.size]? = _
      rw [Array.getElem?_modify, if_neg (by omega)]
      exact h.at (List.mem_cons_of_mem _ (List.mem_cons_self ..))

set_option maxRecDepth 100000 in
set_option maxHeartbeats 8000000 in
theorem bin_any {l : List Int} {rb : Nat} {bv : Value} {s : Nat → Addr} {n : Nat} (ih : ∀ m, m ≤ n → RdC l rb bv s m) (least : Nat) (t : Tk) (res : Rs) (w : World) (h : rd l (n + 1) (.bin least) t = some res) (_hle : least ≤ 11) (_h1 : 1 ≤ least) (hy : Rdy l rb bv s t w) :
    Calls Tryd.prog 64 #[.pointer (some ⟨rb, 0, none⟩), .int .i64 least] w fun e w' => Out rb w.heap.size bv s res e w' ∧ Ch rb w w' := by
  have hrb := lt_of_heap hy.rd
  simp only [rd] at h
  have HY := Lib.hid hy
  obtain ⟨r1, hr1⟩ : ∃ r1, rd l n .opd t = r1 := ⟨_, rfl⟩
  rw [hr1] at h
  match r1, hr1, h with
  | none, _, h => cases h
  | some (.bad c p), hr1, h =>
    cases h
    have HO : Hid (∀ o, Calls Tryd.prog 79 #[.pointer (some ⟨rb, 0, none⟩)] (w.alloc o) fun e w' => Out rb (w.alloc o).heap.size bv s (.bad c p) e w' ∧ Ch rb (w.alloc o) w') := Lib.hid (fun o => (ih n (Nat.le_refl _)).opd t _ _ hr1 (hy.below ((Below.refl _ _).alloc (Nat.le_refl _) o)))
    clear ih hr1 hy
    go_enter Tryd.func64, Tryd.ntmps64
    go_wp2_with fail
    refine (HO.out _).mono ?_
    rintro e w1 ⟨⟨v, rfl, he⟩, hch⟩
    exact ⟨rfl, ⟨_, rfl, he⟩, (ch_alloc rb w _ hrb).trans hch⟩
  | some (.ok a t1), hr1, h =>
    have HO : Hid (∀ o, Calls Tryd.prog 79 #[.pointer (some ⟨rb, 0, none⟩)] (w.alloc o) fun e w' => Out rb (w.alloc o).heap.size bv s (.ok a t1) e w' ∧ Ch rb (w.alloc o) w') := Lib.hid (fun o => (ih n (Nat.le_refl _)).opd t _ _ hr1 (hy.below ((Below.refl _ _).alloc (Nat.le_refl _) o)))
    have hs1 := rd_stop l n _ t t1 a hr1 hy.st
    have IH := Lib.hid ih
    have HL := Lib.hid h
    clear ih hr1 hy h
    go_enter Tryd.func64, Tryd.ntmps64
    go_wp2_with fail
    refine (HO.out _).mono ?_
    rintro e w1 ⟨⟨ka, rfl, hin, hrd⟩, hch⟩
    obtain ⟨oa, na, rfl⟩ := hin.shape
    have K1 := Lib.hid ((Kp.start rb w hrb zrO).next hrb hch)
    have HIA := Lib.hid hin
    have HR1 := Lib.hid hrd
    have hl1 := lt_of_heap (K1.out.at (List.mem_cons_self ..))
    clear hch hin hrd
    go_wp2_with fail
    have HS : Hid (∀ o, o = arO a (.slice oa na na) → BinR l rb bv least n w w1.heap.size res n (w1.alloc o)) := Lib.hid (fun o ho => by
      subst ho
      refine ⟨Nat.le_refl _, a, t1, oa, na, HL.out, K1.out.add hrb _, hl1, ?_, HR1.out.alloc _, hs1⟩
      exact (Tr.In.toP (fun k hk hk' => ⟨by simp at hk; omega, by omega⟩) a _ HIA.out).kept (fun k hk hk' => alloc_at_old _ _ k hk') a _)
    generalize w1.heap.size = A at *
    go_loopg [6, 7] n (fun k _ _ wr => BinR l rb bv least n w A res k wr)
    case atStart => exact HS.out _ rfl
    case round =>
      obtain ⟨hk, left, t', o, m, hl, hkp, hA, hin, hrd, hst⟩ := hrel
      obtain ⟨x, hx⟩ : ∃ x, x = strN t'.text := ⟨_, rfl⟩
      have hx10 : x ≤ 10 := by rw [hx]; exact strN_le _
      have HSt : Hid (∀ W, Calls Tryd.prog 80 #[.string t'.text] W fun e w' => e = .returned (.int .i64 x) ∧ Below W.heap.size W w') := Lib.hid (fun W => by rw [hx]; exact strength_any t'.text W)
      have HKP := Lib.hid hkp
      have HIN := Lib.hid hin
      have HRD := Lib.hid hrd
      have HYr : Hid (∀ W t'', Ch rb w W → Rd W rb bv t'' → t''.stop ≤ l.length → Rdy l rb bv s t'' W) := Lib.hid (fun W t'' hW hr ht => HY.out.ch hW hr ht)
      have hsz := hkp.ch.1.size
      have hAl := lt_of_heap (hkp.at (List.mem_cons_self ..))
      obtain ⟨⟨c0, c1, c2, c3, c4, c5, c6⟩, _, hb⟩ := hrd.facts
      clear hkp hin hrd
      by_cases hge : least ≤ x
      · -- an operator that is strong enough
        cases gk with
        | zero => simp [rd] at hl
        | succ k =>
          simp only [rd] at hl
          rw [← hx, if_pos hge] at hl
          have HT := Lib.hid (take_ctx HY.out t' _ rfl hst)
          have hst2 := tok_stop l t'.stop hst
          obtain ⟨u, hu⟩ : ∃ u, tok l t'.stop = u := ⟨_, rfl⟩
          rw [hu] at hl HT hst2
          obtain ⟨r2, hr2⟩ : ∃ r2, rd l k (.bin (x + 1)) u = r2 := ⟨_, rfl⟩
          rw [hr2] at hl
          have hgi : (least : Int) ≤ (x : Int) := by omega
          clear hx hu
          match r2, hr2, hl with
          | none, _, hl => cases hl
          | some (.bad c p), hr2, hl =>
            cases hl
            have HBn : Hid (∀ W, Ch rb w W → Rd W rb bv u → Calls Tryd.prog 64 #[.pointer (some ⟨rb, 0, none⟩), .int .i64 (x + 1)] W fun e w' => Out rb W.heap.size bv s (.bad c p) e w' ∧ Ch rb W w') := Lib.hid (fun W hW hr => (IH.out k (by omega)).bin (x + 1) u _ W hr2 (by omega) (by omega) (HYr.out W u hW hr hst2))
            clear hr2 HL
            go_wp2_with (go_at_call 80; refine (HSt.out _).mono ?_; rintro e w2 ⟨rfl, hb2⟩)
            have HC2 : Hid (Ch rb wr w2) := Lib.hid (Ch.of_below hb2 (by omega))
            have HR2 : Hid (Rd w2 rb bv t') := Lib.hid ((hb2.block rb hb).trans HRD.out)
            clear hb2 c0 c1 c2 c3 c4 c5 c6
            refine (HT.out _ (HKP.out.ch.trans HC2.out) HR2.out).mono ?_
            rintro e w3 ⟨rfl, hrd3, hch3⟩
            have K3 := Lib.hid (HKP.out.next hrb (HC2.out.trans hch3))
            have HIN3 : Hid (left.InP w3 (fun b => w.heap.size + 1 ≤ b ∧ b ≠ A) (.slice o m m)) := Lib.hid (HIN.out.kept (fun k hk hs => (HC2.out.trans hch3).2 k hs (by omega)) left _)
            have HR3 := Lib.hid hrd3
            have h3 := lt_of_heap (K3.out.at (List.mem_cons_self ..))
            clear hrd3 hch3 HC2 HR2
            go_wp2_with fail
            refine (HSt.out _).mono ?_
            rintro e w4 ⟨rfl, hb4⟩
            have HC4 : Hid (Ch rb (w3.alloc (tkO t')) w4) := Lib.hid (Ch.of_below hb4 (by simp; omega))
            have K4 : Hid (Kp rb w w4 [(w3.heap.size, tkO t'), (A, arO left (.slice o m m)), (w.heap.size, zrO)]) := Lib.hid ((K3.out.add hrb (tkO t')).next hrb HC4.out)
            have HR4 : Hid (Rd w4 rb bv u) := Lib.hid ((hb4.block rb (by simp; omega)).trans (HR3.out.alloc _))
            have HIN4 : Hid (left.InP w4 (fun b => w.heap.size + 1 ≤ b ∧ b ≠ A) (.slice o m m)) := Lib.hid ((HIN3.out.kept (fun k _ hs => alloc_at_old _ _ k hs) left _).kept (fun k hk hs => HC4.out.2 k hs (by omega)) left _)
            clear hb4 HC4 HR3 K3 HIN3
            go_wp2_with fail
            refine (HBn.out _ K4.out.ch HR4.out).mono ?_
            rintro e w5 ⟨⟨v, rfl, he⟩, hch⟩
            exact ⟨rfl, ⟨_, rfl, he⟩, K4.out.ch.trans hch⟩
          | some (.ok b t2), hr2, hl =>
            have HL2 : Hid (rd l k (.loop least (.bin t'.text t'.start left b)) t2 = some res) := Lib.hid hl
            have hst3 := rd_stop l k _ u t2 b hr2 hst2
            have HBn : Hid (∀ W, Ch rb w W → Rd W rb bv u → Calls Tryd.prog 64 #[.pointer (some ⟨rb, 0, none⟩), .int .i64 (x + 1)] W fun e w' => Out rb W.heap.size bv s (.ok b t2) e w' ∧ Ch rb W w') := Lib.hid (fun W hW hr => (IH.out k (by omega)).bin (x + 1) u _ W hr2 (by omega) (by omega) (HYr.out W u hW hr hst2))
            clear hr2 hl HL
            go_wp2_with (go_at_call 80; refine (HSt.out _).mono ?_; rintro e w2 ⟨rfl, hb2⟩)
            have HC2 : Hid (Ch rb wr w2) := Lib.hid (Ch.of_below hb2 (by omega))
            have HR2 : Hid (Rd w2 rb bv t') := Lib.hid ((hb2.block rb hb).trans HRD.out)
            clear hb2 c0 c1 c2 c3 c4 c5 c6
            refine (HT.out _ (HKP.out.ch.trans HC2.out) HR2.out).mono ?_
            rintro e w3 ⟨rfl, hrd3, hch3⟩
            have K3 := Lib.hid (HKP.out.next hrb (HC2.out.trans hch3))
            have HIN3 : Hid (left.InP w3 (fun b => w.heap.size + 1 ≤ b ∧ b ≠ A) (.slice o m m)) := Lib.hid (HIN.out.kept (fun k hk hs => (HC2.out.trans hch3).2 k hs (by omega)) left _)
            have HR3 := Lib.hid hrd3
            have h3 := lt_of_heap (K3.out.at (List.mem_cons_self ..))
            clear hrd3 hch3 HC2 HR2
            go_wp2_with fail
            refine (HSt.out _).mono ?_
            rintro e w4 ⟨rfl, hb4⟩
            have HC4 : Hid (Ch rb (w3.alloc (tkO t')) w4) := Lib.hid (Ch.of_below hb4 (by simp; omega))
            have K4 : Hid (Kp rb w w4 [(w3.heap.size, tkO t'), (A, arO left (.slice o m m)), (w.heap.size, zrO)]) := Lib.hid ((K3.out.add hrb (tkO t')).next hrb HC4.out)
            have HR4 : Hid (Rd w4 rb bv u) := Lib.hid ((hb4.block rb (by simp; omega)).trans (HR3.out.alloc _))
            have HIN4 : Hid (left.InP w4 (fun b => w.heap.size + 1 ≤ b ∧ b ≠ A) (.slice o m m)) := Lib.hid ((HIN3.out.kept (fun k _ hs => alloc_at_old _ _ k hs) left _).kept (fun k hk hs => HC4.out.2 k hs (by omega)) left _)
            clear hb4 HC4 HR3 K3 HIN3
            go_wp2_with fail
            refine (HBn.out _ K4.out.ch HR4.out).mono ?_
            rintro e w5 ⟨⟨kb, rfl, hin5, hrd5⟩, hch5⟩
            obtain ⟨ob, nb, rfl⟩ := hin5.shape
            have K5 := Lib.hid (K4.out.next hrb hch5)
            have h4 := lt_of_heap (K4.out.at (List.mem_cons_of_mem _ (List.mem_cons_self ..)))
            have HIN5 : Hid (left.InP w5 (fun b => w.heap.size + 1 ≤ b ∧ b ≠ A) (.slice o m m)) := Lib.hid (HIN4.out.kept (fun k hk hs => hch5.2 k hs (by omega)) left _)
            have HIB5 : Hid (b.InP w5 (fun b => w.heap.size + 1 ≤ b ∧ b ≠ A) (.slice ob nb nb)) := Lib.hid (Tr.In.toP (fun k hk _ => ⟨by omega, by omega⟩) b _ hin5)
            have HR5 := Lib.hid hrd5
            clear hin5 hrd5 hch5 HIN4 HR4 K4
            obtain ⟨⟨k0, k1, k2, k3, k4, k5⟩, _⟩ := six_facts (K5.out.at (List.mem_cons_self ..))
            obtain ⟨⟨x0, x1, x2, x3, x4, x5⟩, _⟩ := six_facts (K5.out.at (List.mem_cons_of_mem _ (List.mem_cons_self ..)))
            have q1 := lt_of_heap (K5.out.at (List.mem_cons_self ..))
            have q2 := lt_of_heap (K5.out.at (List.mem_cons_of_mem _ (List.mem_cons_self ..)))
            have q3 := lt_of_heap (K5.out.at (List.mem_cons_of_mem _ (List.mem_cons_of_mem _ (List.mem_cons_self ..))))
            have HAA : Hid (∀ o1 o2, Kp rb w ((w5.alloc o1).alloc o2) [(A, arO left (.slice o m m)), (w.heap.size, zrO)]) := Lib.hid (fun o1 o2 => ⟨((K5.out.add hrb o1).add hrb o2).ch, fun y hy => ((K5.out.add hrb o1).add hrb o2).all y (by simp at hy ⊢; rcases hy with rfl | rfl <;> simp)⟩)
            generalize w3.heap.size = A6 at *
            go_wp2_with (refine wpList_store_ar rfl _ _ rfl rfl A t'.text 0 ⟨#[]⟩ t'.start 0 (.slice (some ⟨w5.heap.size + 1, 0, none⟩) 2 2) rfl rfl rfl _ ((HAA.out _ _).at (List.mem_cons_self ..)) rfl ?_)
            go_roundg k
            case measure => omega
            case rel =>
              refine ⟨by omega, .bin t'.text t'.start left b, t2, _, _, HL2.out, (HAA.out _ _).setA hA hrb, hA, ?_, ((HR5.out.alloc _).alloc _).setRow (by omega) _, hst3⟩
              have hN : ∀ {tr : Tr} {kv : Value} (_ : tr.InP w5 (fun b => w.heap.size + 1 ≤ b ∧ b ≠ A) kv) (o o' : Obj) (c : Array Value), tr.InP (((w5.alloc o).alloc o').setRow A c) (fun b => w.heap.size + 1 ≤ b ∧ b ≠ A) kv := fun {tr kv} hi o o' c =>
                hi.kept (fun k hk hs => by
                  show (((w5.heap.push _).push _).modify A _)[k]? = _
                  rw [Array.getElem?_modify, if_neg (by omega)]
                  exact (alloc_at_old _ _ k (by simp; omega)).trans (alloc_at_old _ _ k hs)) tr kv
              refine ⟨w5.heap.size + 1, _, _, rfl, ⟨by omega, by omega⟩, ?_, hN HIN5.out _ _ _, hN HIB5.out _ _ _⟩
              show (((w5.heap.push _).push _).modify A _)[w5.heap.size + 1]? = _
              rw [Array.getElem?_modify, if_neg (by omega), Array.getElem?_push, if_pos (by simp)]
              rfl
      · -- none: the loop ends
        have hres : res = .ok left t' := by
          cases gk with
          | zero => simp [rd] at hl
          | succ k =>
            simp only [rd] at hl
            rw [← hx, if_neg hge] at hl
            simpa using hl.symm
        subst hres
        have hgi : ¬ (least : Int) ≤ (x : Int) := by omega
        have hgi2 : (x : Int) < (least : Int) := by omega
        clear hx hl HL hge
        have hrbA : rb ≤ wr.heap.size := by omega
        go_wp2_with (go_at_call 80; refine (HSt.out _).mono ?_; rintro e w2 ⟨rfl, hb2⟩; have K2 := Lib.hid (HKP.out.next hrb (Ch.of_below hb2 hrbA)); have HR2 : Hid (Rd w2 rb bv t') := Lib.hid ((hb2.block rb hb).trans HRD.out); have HIN2 : Hid (left.InP w2 (fun b => w.heap.size + 1 ≤ b ∧ b ≠ A) (.slice o m m)) := Lib.hid (HIN.out.kept (fun k _ hs => hb2.block k hs) left _); clear hb2; obtain ⟨⟨x0, x1, x2, x3, x4, x5⟩, _⟩ := six_facts (K2.out.at (List.mem_cons_self ..)); have HZ : Hid (w2.heap[w.heap.size]? = some zrO) := Lib.hid (K2.out.at (List.mem_cons_of_mem _ (List.mem_cons_self ..))); obtain ⟨⟨z0, z1, z2, z3, z4, z5⟩, y0, y1, y2, y3, y4, y5⟩ := six_facts HZ.out)
        exact bodyPost_ret (results_ar rfl _ _ w.heap.size _ rfl (putA_at HZ.out _ _ _ _ _ _) rfl) rfl ⟨⟨_, rfl, Tr.InP.to (fun k h => by omega) left _ (HIN2.out.kept (fun k hk _ => putA_other _ _ _ _ _ _ _ _ k (by omega)) left _), (putA_other _ _ _ _ _ _ _ _ rb (by omega)).trans HR2.out⟩, putA_ch K2.out.ch (Nat.le_refl _) (Nat.le_of_lt hrb) _ _ _ _ _ _⟩
end Go.Proofs.YtlmoeldillpamaaDoor
