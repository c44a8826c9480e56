/- The contract of cond. -/
import Derived.Test.YtlmoeldillpamaaDoorArAsg
namespace Go.Proofs.YtlmoeldillpamaaDoor
open Go.RowKit

/-- Blocks that the running call has made hold what they held; the reader's block alone has turned. -/
structure Kp (rb : Nat) (w W : World) (L : List (Nat × Obj)) : Prop where
  ch : Ch rb w W
  all : ∀ x ∈ L, W.heap[x.1]? = some x.2 ∧ w.heap.size ≤ x.1
theorem Kp.next {rb : Nat} {w W W' : World} {L : List (Nat × Obj)} (h : Kp rb w W L) (hrb : rb < w.heap.size) (hc : Ch rb W W') : Kp rb w W' L where
  ch := h.ch.trans hc
  all := fun x hx => by
    have := h.all x hx
    exact ⟨(hc.2 _ (lt_of_heap this.1) (by omega)).trans this.1, this.2⟩
theorem Kp.add {rb : Nat} {w W : World} {L : List (Nat × Obj)} (h : Kp rb w W L) (hrb : rb < w.heap.size) (o : Obj) : Kp rb w (W.alloc o) ((W.heap.size, o) :: L) where
  ch := h.ch.alloc o (by have := h.ch.1.size; omega)
  all := fun x hx => by
    rcases List.mem_cons.1 hx with rfl | hx
    · exact ⟨heap_alloc_last W o, h.ch.1.size⟩
    · have := h.all x hx
      exact ⟨alloc_keeps this.1 o, this.2⟩
theorem Kp.start (rb : Nat) (w : World) (hrb : rb < w.heap.size) (o : Obj) : Kp rb w (w.alloc o) [(w.heap.size, o)] := Kp.add ⟨Ch.refl rb w, fun _ h => by cases h⟩ hrb o
theorem Kp.at {rb : Nat} {w W : World} {L : List (Nat × Obj)} (h : Kp rb w W L) {b : Nat} {o : Obj} (hx : (b, o) ∈ L) : W.heap[b]? = some o := (h.all _ hx).1
theorem Kp.ge {rb : Nat} {w W : World} {L : List (Nat × Obj)} (h : Kp rb w W L) {b : Nat} {o : Obj} (hx : (b, o) ∈ L) : w.heap.size ≤ b := (h.all _ hx).2

/-- A tree's cells in a block of their own; a token's. -/
def arO (t : Tr) (kv : Value) : Obj := .cells #[.string t.op, .int .i64 t.val, .string t.nm, .int .i64 t.pos, .int .i64 t.apos, kv] 36
def tkO (t : Tk) : Obj := .cells #[.int .i64 t.kind, .int .i64 t.start, .int .i64 t.stop, .string t.text, .int .i64 t.num, .bool t.over] 76
def zrO : Obj := .cells #[.string ⟨#[]⟩, .int .i64 0, .string ⟨#[]⟩, .int .i64 0, .int .i64 0, .slice none 0 0] 36

theorem Tr.In.shape {w : World} {lo : Nat} {t : Tr} {kv : Value} (h : t.In w lo kv) : ∃ o n, kv = .slice o n n := by
  cases t with
  | num n p => exact ⟨none, 0, h⟩
  | name n p => exact ⟨none, 0, h⟩
  | un op p a => obtain ⟨k, ka, e, _⟩ := h; exact ⟨_, _, e⟩
  | bin op p a b => obtain ⟨k, ka, kb, e, _⟩ := h; exact ⟨_, _, e⟩
  | cond op p a b c => obtain ⟨k, ka, kb, kc, e, _⟩ := h; exact ⟨_, _, e⟩
  | asg op x p q a => obtain ⟨k, ka, e, _⟩ := h; exact ⟨_, _, e⟩
/-- What calls find, worlds being whatever the reader's block has turned to. -/
theorem take_ctx {l : List Int} {rb : Nat} {bv : Value} {s : Nat → Addr} {t0 : Tk} {w : World} (hy : Rdy l rb bv s t0 w) (t t' : Tk) (ht : tok l t.stop = t') (hs : t.stop ≤ l.length) (W : World) (hc : Ch rb w W) (hr : Rd W rb bv t) :
    Calls Tryd.prog 48 #[.pointer (some ⟨rb, 0, none⟩)] W fun e w' => e = .returned (.agg #[.int .i64 t.kind, .int .i64 t.start, .int .i64 t.stop, .string t.text, .int .i64 t.num, .bool t.over]) ∧ Rd w' rb bv t' ∧ Ch rb W w' := by
  have := take_any rb bv l t W hr (hy.ch hc hr hs).cx.sl hs
  rw [ht] at this
  exact this

set_option maxRecDepth 100000 in
set_option maxHeartbeats 4000000 in
theorem cond_bad1 {l : List Int} {rb : Nat} {bv : Value} {s : Nat → Addr} {n : Nat} (ih : RdC l rb bv s n) (t : Tk) (c p : Nat) (w : World) (h : rd l n (.bin 1) t = some (.bad c p)) (hy : Rdy l rb bv s t w) :
    Calls Tryd.prog 47 #[.pointer (some ⟨rb, 0, none⟩)] w fun e w' => Out rb w.heap.size bv s (.bad c p) e w' ∧ Ch rb w w' := by
  have hrb := lt_of_heap hy.rd
  have HB : Hid (∀ o, Calls Tryd.prog 64 #[.pointer (some ⟨rb, 0, none⟩), .int .i64 1] (w.alloc o) fun e w' => Out rb (w.alloc o).heap.size bv s (.bad c p) e w' ∧ Ch rb (w.alloc o) w') := Lib.hid (fun o => ih.bin 1 t _ _ h (by omega) (by omega) (hy.below ((Below.refl _ _).alloc (Nat.le_refl _) o)))
  have HC : Hid (∀ o, Ch rb w (w.alloc o)) := Lib.hid (fun o => (Ch.refl rb w).alloc o (Nat.le_of_lt hrb))
  clear ih h hy
  go_enter Tryd.func47, Tryd.ntmps47
  go_wp2_with fail
  refine (HB.out _).mono ?_
  rintro e w1 ⟨⟨v, rfl, he⟩, hch⟩
  exact ⟨rfl, ⟨_, rfl, he⟩, (HC.out _).trans hch⟩

set_option maxRecDepth 100000 in
set_option maxHeartbeats 4000000 in
theorem cond_plain {l : List Int} {rb : Nat} {bv : Value} {s : Nat → Addr} {n : Nat} (ih : RdC l rb bv s n) (t t1 : Tk) (a : Tr) (w : World) (h : rd l n (.bin 1) t = some (.ok a t1)) (hq : ¬ t1.text = sQue) (hy : Rdy l rb bv s t w) :
    Calls Tryd.prog 47 #[.pointer (some ⟨rb, 0, none⟩)] w fun e w' => Out rb w.heap.size bv s (.ok a t1) e w' ∧ Ch rb w w' := by
  have hrb := lt_of_heap hy.rd
  have HB : Hid (∀ o, Calls Tryd.prog 64 #[.pointer (some ⟨rb, 0, none⟩), .int .i64 1] (w.alloc o) fun e w' => Out rb (w.alloc o).heap.size bv s (.ok a t1) e w' ∧ Ch rb (w.alloc o) w') := Lib.hid (fun o => ih.bin 1 t _ _ h (by omega) (by omega) (hy.below ((Below.refl _ _).alloc (Nat.le_refl _) o)))
  have e1 : (t1.text.toList == [63]) = false := tl_no hq
  clear ih h hy hq
  go_enter Tryd.func47, Tryd.ntmps47
  go_wp2_with fail
  refine (HB.out _).mono ?_
  rintro e w1 ⟨⟨ka, rfl, hin, hrd⟩, hch⟩
  obtain ⟨oa, na, rfl⟩ := hin.shape
  have K1 := Lib.hid ((Kp.start rb w hrb zrO).next hrb hch)
  have HIN := Lib.hid hin
  have HRD := Lib.hid hrd
  obtain ⟨⟨c0, c1, c2, c3, c4, c5, c6⟩, _, hb⟩ := HRD.out.facts
  clear hch hin hrd
  have hs1 := lt_of_heap (K1.out.at (List.mem_cons_self ..))
  have HRA : Hid (∀ o, (w1.alloc o).heap[w.heap.size]? = some zrO) := Lib.hid (fun o => alloc_keeps (K1.out.at (List.mem_cons_self ..)) o)
  unfold zrO at HRA
  go_wp2_with (refine wpList_store_ar rfl _ _ rfl rfl w.heap.size a.op a.val a.nm a.pos a.apos _ HIN.out.one rfl rfl _ (HRA.out _) rfl ?_)
  refine bodyPost_ret (results_ar rfl _ _ w.heap.size _ rfl (setRow_self (HRA.out _) _) rfl) rfl ⟨⟨_, rfl, ?_, (HRD.out.alloc _).setRow (by omega) _⟩, ((K1.out.add hrb _).ch).setRow (Nat.le_refl _) (Nat.le_of_lt hrb) _⟩
  exact ((HIN.out.kept (fun k _ hk => alloc_at_old _ _ k hk) a _).setRow (by simp) _).mono (by simp) _ _

set_option maxRecDepth 100000 in
set_option maxHeartbeats 4000000 in
theorem cond_bad2 {l : List Int} {rb : Nat} {bv : Value} {s : Nat → Addr} {n : Nat} (ih : RdC l rb bv s n) (t t1 : Tk) (a : Tr) (w : World) (h : rd l n (.bin 1) t = some (.ok a t1)) (hq : t1.text = sQue)
    (c p : Nat) (h2 : rd l n .expr (tok l t1.stop) = some (.bad c p)) (hy : Rdy l rb bv s t w) :
    Calls Tryd.prog 47 #[.pointer (some ⟨rb, 0, none⟩)] w fun e w' => Out rb w.heap.size bv s (.bad c p) e w' ∧ Ch rb w w' := by
  have hrb := lt_of_heap hy.rd
  have HB : Hid (∀ o, Calls Tryd.prog 64 #[.pointer (some ⟨rb, 0, none⟩), .int .i64 1] (w.alloc o) fun e w' => Out rb (w.alloc o).heap.size bv s (.ok a t1) e w' ∧ Ch rb (w.alloc o) w') := Lib.hid (fun o => ih.bin 1 t _ _ h (by omega) (by omega) (hy.below ((Below.refl _ _).alloc (Nat.le_refl _) o)))
  have hs1 := rd_stop l n _ t t1 a h hy.st
  have hs1' := tok_stop l t1.stop hs1
  obtain ⟨u1, hu1⟩ : ∃ u1, tok l t1.stop = u1 := ⟨_, rfl⟩
  rw [hu1] at hs1' h2
  have HT1 := Lib.hid (take_ctx hy t1 u1 hu1 hs1)
  have HE : Hid (∀ W, Ch rb w W → Rd W rb bv u1 → Calls Tryd.prog 33 #[.pointer (some ⟨rb, 0, none⟩)] W fun e w' => Out rb W.heap.size bv s (.bad c p) e w' ∧ Ch rb W w') := Lib.hid (fun W hW hr => ih.expr u1 _ W h2 (hy.ch hW hr hs1'))
  have e1 : (t1.text.toList == [63]) = true := by rw [tl_beq]; exact decide_eq_true hq
  clear ih h hy hq h2 hu1 hs1'
  go_enter Tryd.func47, Tryd.ntmps47
  go_wp2_with fail
  refine (HB.out _).mono ?_
  rintro e w1 ⟨⟨ka, rfl, hin, hrd⟩, hch⟩
  obtain ⟨oa, na, rfl⟩ := hin.shape
  have K1 := Lib.hid ((Kp.start rb w hrb zrO).next hrb hch)
  have HIA := Lib.hid hin
  have HR1 := Lib.hid hrd
  obtain ⟨⟨c0, c1, c2, c3, c4, c5, c6⟩, _, hb⟩ := HR1.out.facts
  clear hch hin hrd
  have hl1 := lt_of_heap (K1.out.at (List.mem_cons_self ..))
  go_wp2_with fail
  clear c0 c1 c2 c3 c4 c5 c6
  have K1a := Lib.hid (K1.out.add hrb (arO a (.slice oa na na)))
  refine (HT1.out _ K1a.out.ch (HR1.out.alloc _)).mono ?_
  rintro e w2 ⟨rfl, hrd, hch⟩
  have K2 := Lib.hid (K1a.out.next hrb hch)
  have HIA2 : Hid (a.In w2 (w.heap.size + 1) (.slice oa na na)) := Lib.hid ((((HIA.out.kept (fun k _ hk => alloc_at_old _ _ k hk) a _).mono (by simp) _ _)).ch (by omega) hch)
  have HR2 := Lib.hid hrd
  clear hch hrd K1 K1a HIA HR1
  go_wp2_with fail
  have K2a := Lib.hid (K2.out.add hrb (tkO t1))
  refine (HE.out _ K2a.out.ch (HR2.out.alloc _)).mono ?_
  rintro e w3 ⟨⟨v, rfl, he⟩, hch⟩
  exact ⟨rfl, ⟨_, rfl, he⟩, K2a.out.ch.trans hch⟩

set_option maxRecDepth 100000 in
set_option maxHeartbeats 4000000 in
theorem cond_bad3 {l : List Int} {rb : Nat} {bv : Value} {s : Nat → Addr} {n : Nat} (ih : RdC l rb bv s n) (t t1 : Tk) (a : Tr) (w : World) (h : rd l n (.bin 1) t = some (.ok a t1)) (hq : t1.text = sQue)
    (y : Tr) (t2 : Tk) (h2 : rd l n .expr (tok l t1.stop) = some (.ok y t2)) (hc : ¬ t2.text = sCol) (hy : Rdy l rb bv s t w) :
    Calls Tryd.prog 47 #[.pointer (some ⟨rb, 0, none⟩)] w fun e w' => Out rb w.heap.size bv s (refuse t2) e w' ∧ Ch rb w w' := by
  have hrb := lt_of_heap hy.rd
  have HB : Hid (∀ o, Calls Tryd.prog 64 #[.pointer (some ⟨rb, 0, none⟩), .int .i64 1] (w.alloc o) fun e w' => Out rb (w.alloc o).heap.size bv s (.ok a t1) e w' ∧ Ch rb (w.alloc o) w') := Lib.hid (fun o => ih.bin 1 t _ _ h (by omega) (by omega) (hy.below ((Below.refl _ _).alloc (Nat.le_refl _) o)))
  have hs1 := rd_stop l n _ t t1 a h hy.st
  have hs1' := tok_stop l t1.stop hs1
  obtain ⟨u1, hu1⟩ : ∃ u1, tok l t1.stop = u1 := ⟨_, rfl⟩
  rw [hu1] at hs1' h2
  have HT1 := Lib.hid (take_ctx hy t1 u1 hu1 hs1)
  have HE : Hid (∀ W, Ch rb w W → Rd W rb bv u1 → Calls Tryd.prog 33 #[.pointer (some ⟨rb, 0, none⟩)] W fun e w' => Out rb W.heap.size bv s (.ok y t2) e w' ∧ Ch rb W w') := Lib.hid (fun W hW hr => ih.expr u1 _ W h2 (hy.ch hW hr hs1'))
  have hs2 := rd_stop l n _ u1 t2 y h2 hs1'
  have HN : Hid (∀ W, Ch rb w W → Rd W rb bv t2 → Calls Tryd.prog 65 #[.pointer (some ⟨rb, 0, none⟩), .string ⟨#[58]⟩] W fun e w' => Bad s t2.code t2.start e w' ∧ Below W.heap.size W w') := Lib.hid (fun W hW hr => takeText_no rb bv t2 _ s W hr (hy.ch hW hr hs2).cx.er hc)
  have e1 : (t1.text.toList == [63]) = true := by rw [tl_beq]; exact decide_eq_true hq
  clear ih h hy hq h2 hc hu1 hs1'
  go_enter Tryd.func47, Tryd.ntmps47
  go_wp2_with fail
  refine (HB.out _).mono ?_
  rintro e w1 ⟨⟨ka, rfl, hin, hrd⟩, hch⟩
  obtain ⟨oa, na, rfl⟩ := hin.shape
  have K1 := Lib.hid ((Kp.start rb w hrb zrO).next hrb hch)
  have HIA := Lib.hid hin
  have HR1 := Lib.hid hrd
  obtain ⟨⟨c0, c1, c2, c3, c4, c5, c6⟩, _, hb⟩ := HR1.out.facts
  clear hch hin hrd
  have hl1 := lt_of_heap (K1.out.at (List.mem_cons_self ..))
  go_wp2_with fail
  clear c0 c1 c2 c3 c4 c5 c6
  have K1a := Lib.hid (K1.out.add hrb (arO a (.slice oa na na)))
  refine (HT1.out _ K1a.out.ch (HR1.out.alloc _)).mono ?_
  rintro e w2 ⟨rfl, hrd, hch⟩
  have K2 := Lib.hid (K1a.out.next hrb hch)
  have HIA2 : Hid (a.In w2 (w.heap.size + 1) (.slice oa na na)) := Lib.hid ((((HIA.out.kept (fun k _ hk => alloc_at_old _ _ k hk) a _).mono (by simp) _ _)).ch (by omega) hch)
  have HR2 := Lib.hid hrd
  clear hch hrd K1 K1a HIA HR1
  go_wp2_with fail
  have K2a := Lib.hid (K2.out.add hrb (tkO t1))
  refine (HE.out _ K2a.out.ch (HR2.out.alloc _)).mono ?_
  rintro e w3 ⟨⟨ky, rfl, hin, hrd⟩, hch⟩
  obtain ⟨oy, ny, rfl⟩ := hin.shape
  have K3 := Lib.hid (K2a.out.next hrb hch)
  have HIA3 : Hid (a.In w3 (w.heap.size + 1) (.slice oa na na)) := Lib.hid ((HIA2.out.kept (fun k _ hk => alloc_at_old _ _ k hk) a _).ch (by omega) hch)
  have HIY3 : Hid (y.In w3 (w.heap.size + 1) (.slice oy ny ny)) := Lib.hid (hin.mono (by have := K2.out.ch.1.size; simp; have := lt_of_heap (K2.out.at (List.mem_cons_of_mem _ (List.mem_cons_self ..))); omega) _ _)
  have HR3 := Lib.hid hrd
  clear hch hin hrd K2 K2a HIA2 HR2
  go_wp2_with fail
  have K3a := Lib.hid (K3.out.add hrb (arO y (.slice oy ny ny)))
  refine (HN.out _ K3a.out.ch (HR3.out.alloc _)).mono ?_
  rintro e w4 ⟨⟨v, rfl, he⟩, hb4⟩
  exact ⟨rfl, ⟨_, rfl, he⟩, K3a.out.ch.step hb4 (by have := K3a.out.ch.1.size; omega)⟩

set_option maxRecDepth 100000 in
set_option maxHeartbeats 4000000 in
theorem cond_bad4 {l : List Int} {rb : Nat} {bv : Value} {s : Nat → Addr} {n : Nat} (ih : RdC l rb bv s n) (t t1 : Tk) (a : Tr) (w : World) (h : rd l n (.bin 1) t = some (.ok a t1)) (hq : t1.text = sQue)
    (y : Tr) (t2 : Tk) (h2 : rd l n .expr (tok l t1.stop) = some (.ok y t2)) (hc : t2.text = sCol) (c p : Nat) (h3 : rd l n .cond (tok l t2.stop) = some (.bad c p)) (hy : Rdy l rb bv s t w) :
    Calls Tryd.prog 47 #[.pointer (some ⟨rb, 0, none⟩)] w fun e w' => Out rb w.heap.size bv s (.bad c p) e w' ∧ Ch rb w w' := by
  have hrb := lt_of_heap hy.rd
  have HB : Hid (∀ o, Calls Tryd.prog 64 #[.pointer (some ⟨rb, 0, none⟩), .int .i64 1] (w.alloc o) fun e w' => Out rb (w.alloc o).heap.size bv s (.ok a t1) e w' ∧ Ch rb (w.alloc o) w') := Lib.hid (fun o => ih.bin 1 t _ _ h (by omega) (by omega) (hy.below ((Below.refl _ _).alloc (Nat.le_refl _) o)))
  have hs1 := rd_stop l n _ t t1 a h hy.st
  have hs1' := tok_stop l t1.stop hs1
  obtain ⟨u1, hu1⟩ : ∃ u1, tok l t1.stop = u1 := ⟨_, rfl⟩
  rw [hu1] at hs1' h2
  have HT1 := Lib.hid (take_ctx hy t1 u1 hu1 hs1)
  have HE : Hid (∀ W, Ch rb w W → Rd W rb bv u1 → Calls Tryd.prog 33 #[.pointer (some ⟨rb, 0, none⟩)] W fun e w' => Out rb W.heap.size bv s (.ok y t2) e w' ∧ Ch rb W w') := Lib.hid (fun W hW hr => ih.expr u1 _ W h2 (hy.ch hW hr hs1'))
  have hs2 := rd_stop l n _ u1 t2 y h2 hs1'
  have hs2' := tok_stop l t2.stop hs2
  obtain ⟨u2, hu2⟩ : ∃ u2, tok l t2.stop = u2 := ⟨_, rfl⟩
  rw [hu2] at hs2' h3
  have HN : Hid (∀ W, Ch rb w W → Rd W rb bv t2 → Calls Tryd.prog 65 #[.pointer (some ⟨rb, 0, none⟩), .string ⟨#[58]⟩] W fun e w' => e = .returned (.tuple #[]) ∧ Rd w' rb bv u2 ∧ Ch rb W w') := Lib.hid (fun W hW hr => by
    have := takeText_yes rb bv l t2 _ W hr (hy.ch hW hr hs2).cx.sl hs2 hc
    rw [hu2] at this
    exact this)
  have HD : Hid (∀ W, Ch rb w W → Rd W rb bv u2 → Calls Tryd.prog 47 #[.pointer (some ⟨rb, 0, none⟩)] W fun e w' => Out rb W.heap.size bv s (.bad c p) e w' ∧ Ch rb W w') := Lib.hid (fun W hW hr => ih.cond u2 _ W h3 (hy.ch hW hr hs2'))
  have e1 : (t1.text.toList == [63]) = true := by rw [tl_beq]; exact decide_eq_true hq
  clear ih h hy hq h2 hc hu1 hs1' h3 hu2
  go_enter Tryd.func47, Tryd.ntmps47
  go_wp2_with fail
  refine (HB.out _).mono ?_
  rintro e w1 ⟨⟨ka, rfl, hin, hrd⟩, hch⟩
  obtain ⟨oa, na, rfl⟩ := hin.shape
  have K1 := Lib.hid ((Kp.start rb w hrb zrO).next hrb hch)
  have HIA := Lib.hid hin
  have HR1 := Lib.hid hrd
  obtain ⟨⟨c0, c1, c2, c3, c4, c5, c6⟩, _, hb⟩ := HR1.out.facts
  clear hch hin hrd
  have hl1 := lt_of_heap (K1.out.at (List.mem_cons_self ..))
  go_wp2_with fail
  clear c0 c1 c2 c3 c4 c5 c6
  have K1a := Lib.hid (K1.out.add hrb (arO a (.slice oa na na)))
  refine (HT1.out _ K1a.out.ch (HR1.out.alloc _)).mono ?_
  rintro e w2 ⟨rfl, hrd, hch⟩
  have K2 := Lib.hid (K1a.out.next hrb hch)
  have HIA2 : Hid (a.In w2 (w.heap.size + 1) (.slice oa na na)) := Lib.hid ((((HIA.out.kept (fun k _ hk => alloc_at_old _ _ k hk) a _).mono (by simp) _ _)).ch (by omega) hch)
  have HR2 := Lib.hid hrd
  clear hch hrd K1 K1a HIA HR1
  go_wp2_with fail
  have K2a := Lib.hid (K2.out.add hrb (tkO t1))
  refine (HE.out _ K2a.out.ch (HR2.out.alloc _)).mono ?_
  rintro e w3 ⟨⟨ky, rfl, hin, hrd⟩, hch⟩
  obtain ⟨oy, ny, rfl⟩ := hin.shape
  have K3 := Lib.hid (K2a.out.next hrb hch)
  have HIA3 : Hid (a.In w3 (w.heap.size + 1) (.slice oa na na)) := Lib.hid ((HIA2.out.kept (fun k _ hk => alloc_at_old _ _ k hk) a _).ch (by omega) hch)
  have HIY3 : Hid (y.In w3 (w.heap.size + 1) (.slice oy ny ny)) := Lib.hid (hin.mono (by have := K2.out.ch.1.size; simp; have := lt_of_heap (K2.out.at (List.mem_cons_of_mem _ (List.mem_cons_self ..))); omega) _ _)
  have HR3 := Lib.hid hrd
  clear hch hin hrd K2 K2a HIA2 HR2
  go_wp2_with fail
  have K3a := Lib.hid (K3.out.add hrb (arO y (.slice oy ny ny)))
  refine (HN.out _ K3a.out.ch (HR3.out.alloc _)).mono ?_
  rintro e w4 ⟨rfl, hrd, hch⟩
  have K4 := Lib.hid (K3a.out.next hrb hch)
  have HIA4 : Hid (a.In w4 (w.heap.size + 1) (.slice oa na na)) := Lib.hid ((HIA3.out.kept (fun k _ hk => alloc_at_old _ _ k hk) a _).ch (by omega) hch)
  have HIY4 : Hid (y.In w4 (w.heap.size + 1) (.slice oy ny ny)) := Lib.hid ((HIY3.out.kept (fun k _ hk => alloc_at_old _ _ k hk) y _).ch (by omega) hch)
  have HR4 := Lib.hid hrd
  clear hch hrd K3 K3a HIA3 HIY3 HR3
  go_wp2_with fail
  refine (HD.out _ K4.out.ch HR4.out).mono ?_
  rintro e w5 ⟨⟨v, rfl, he⟩, hch⟩
  exact ⟨rfl, ⟨_, rfl, he⟩, K4.out.ch.trans hch⟩

set_option maxRecDepth 100000 in
set_option maxHeartbeats 4000000 in
theorem cond_full {l : List Int} {rb : Nat} {bv : Value} {s : Nat → Addr} {n : Nat} (ih : RdC l rb bv s n) (t t1 : Tk) (a : Tr) (w : World) (h : rd l n (.bin 1) t = some (.ok a t1)) (hq : t1.text = sQue)
    (y : Tr) (t2 : Tk) (h2 : rd l n .expr (tok l t1.stop) = some (.ok y t2)) (hc : t2.text = sCol) (z : Tr) (t3 : Tk) (h3 : rd l n .cond (tok l t2.stop) = some (.ok z t3)) (hy : Rdy l rb bv s t w) :
    Calls Tryd.prog 47 #[.pointer (some ⟨rb, 0, none⟩)] w fun e w' => Out rb w.heap.size bv s (.ok (.cond t1.text t1.start a y z) t3) e w' ∧ Ch rb w w' := by
  have hrb := lt_of_heap hy.rd
  have HB : Hid (∀ o, Calls Tryd.prog 64 #[.pointer (some ⟨rb, 0, none⟩), .int .i64 1] (w.alloc o) fun e w' => Out rb (w.alloc o).heap.size bv s (.ok a t1) e w' ∧ Ch rb (w.alloc o) w') := Lib.hid (fun o => ih.bin 1 t _ _ h (by omega) (by omega) (hy.below ((Below.refl _ _).alloc (Nat.le_refl _) o)))
  have hs1 := rd_stop l n _ t t1 a h hy.st
  have hs1' := tok_stop l t1.stop hs1
  obtain ⟨u1, hu1⟩ : ∃ u1, tok l t1.stop = u1 := ⟨_, rfl⟩
  rw [hu1] at hs1' h2
  have HT1 := Lib.hid (take_ctx hy t1 u1 hu1 hs1)
  have HE : Hid (∀ W, Ch rb w W → Rd W rb bv u1 → Calls Tryd.prog 33 #[.pointer (some ⟨rb, 0, none⟩)] W fun e w' => Out rb W.heap.size bv s (.ok y t2) e w' ∧ Ch rb W w') := Lib.hid (fun W hW hr => ih.expr u1 _ W h2 (hy.ch hW hr hs1'))
  have hs2 := rd_stop l n _ u1 t2 y h2 hs1'
  have hs2' := tok_stop l t2.stop hs2
  obtain ⟨u2, hu2⟩ : ∃ u2, tok l t2.stop = u2 := ⟨_, rfl⟩
  rw [hu2] at hs2' h3
  have HN : Hid (∀ W, Ch rb w W → Rd W rb bv t2 → Calls Tryd.prog 65 #[.pointer (some ⟨rb, 0, none⟩), .string ⟨#[58]⟩] W fun e w' => e = .returned (.tuple #[]) ∧ Rd w' rb bv u2 ∧ Ch rb W w') := Lib.hid (fun W hW hr => by
    have := takeText_yes rb bv l t2 _ W hr (hy.ch hW hr hs2).cx.sl hs2 hc
    rw [hu2] at this
    exact this)
  have HD : Hid (∀ W, Ch rb w W → Rd W rb bv u2 → Calls Tryd.prog 47 #[.pointer (some ⟨rb, 0, none⟩)] W fun e w' => Out rb W.heap.size bv s (.ok z t3) e w' ∧ Ch rb W w') := Lib.hid (fun W hW hr => ih.cond u2 _ W h3 (hy.ch hW hr hs2'))
  have e1 : (t1.text.toList == [63]) = true := by rw [tl_beq]; exact decide_eq_true hq
  clear ih h hy hq h2 hc hu1 hs1' h3 hu2
  go_enter Tryd.func47, Tryd.ntmps47
  go_wp2_with fail
  refine (HB.out _).mono ?_
  rintro e w1 ⟨⟨ka, rfl, hin, hrd⟩, hch⟩
  obtain ⟨oa, na, rfl⟩ := hin.shape
  have K1 := Lib.hid ((Kp.start rb w hrb zrO).next hrb hch)
  have HIA := Lib.hid hin
  have HR1 := Lib.hid hrd
  obtain ⟨⟨c0, c1, c2, c3, c4, c5, c6⟩, _, hb⟩ := HR1.out.facts
  clear hch hin hrd
  have hl1 := lt_of_heap (K1.out.at (List.mem_cons_self ..))
  go_wp2_with fail
  clear c0 c1 c2 c3 c4 c5 c6
  have K1a := Lib.hid (K1.out.add hrb (arO a (.slice oa na na)))
  refine (HT1.out _ K1a.out.ch (HR1.out.alloc _)).mono ?_
  rintro e w2 ⟨rfl, hrd, hch⟩
  have K2 := Lib.hid (K1a.out.next hrb hch)
  have HIA2 : Hid (a.In w2 (w.heap.size + 1) (.slice oa na na)) := Lib.hid ((((HIA.out.kept (fun k _ hk => alloc_at_old _ _ k hk) a _).mono (by simp) _ _)).ch (by omega) hch)
  have HR2 := Lib.hid hrd
  clear hch hrd K1 K1a HIA HR1
  go_wp2_with fail
  have K2a := Lib.hid (K2.out.add hrb (tkO t1))
  refine (HE.out _ K2a.out.ch (HR2.out.alloc _)).mono ?_
  rintro e w3 ⟨⟨ky, rfl, hin, hrd⟩, hch⟩
  obtain ⟨oy, ny, rfl⟩ := hin.shape
  have K3 := Lib.hid (K2a.out.next hrb hch)
  have HIA3 : Hid (a.In w3 (w.heap.size + 1) (.slice oa na na)) := Lib.hid ((HIA2.out.kept (fun k _ hk => alloc_at_old _ _ k hk) a _).ch (by omega) hch)
  have HIY3 : Hid (y.In w3 (w.heap.size + 1) (.slice oy ny ny)) := Lib.hid (hin.mono (by have := K2.out.ch.1.size; simp; have := lt_of_heap (K2.out.at (List.mem_cons_of_mem _ (List.mem_cons_self ..))); omega) _ _)
  have HR3 := Lib.hid hrd
  clear hch hin hrd K2 K2a HIA2 HR2
  go_wp2_with fail
  have K3a := Lib.hid (K3.out.add hrb (arO y (.slice oy ny ny)))
  refine (HN.out _ K3a.out.ch (HR3.out.alloc _)).mono ?_
  rintro e w4 ⟨rfl, hrd, hch⟩
  have K4 := Lib.hid (K3a.out.next hrb hch)
  have HIA4 : Hid (a.In w4 (w.heap.size + 1) (.slice oa na na)) := Lib.hid ((HIA3.out.kept (fun k _ hk => alloc_at_old _ _ k hk) a _).ch (by omega) hch)
  have HIY4 : Hid (y.In w4 (w.heap.size + 1) (.slice oy ny ny)) := Lib.hid ((HIY3.out.kept (fun k _ hk => alloc_at_old _ _ k hk) y _).ch (by omega) hch)
  have HR4 := Lib.hid hrd
  clear hch hrd K3 K3a HIA3 HIY3 HR3
  go_wp2_with fail
  refine (HD.out _ K4.out.ch HR4.out).mono ?_
  rintro e w5 ⟨⟨kz, rfl, hin, hrd⟩, hch⟩
  obtain ⟨oz, nz, rfl⟩ := hin.shape
  have K5 := Lib.hid (K4.out.next hrb hch)
  have HIA5 : Hid (a.In w5 (w.heap.size + 1) (.slice oa na na)) := Lib.hid (HIA4.out.ch (by omega) hch)
  have HIY5 : Hid (y.In w5 (w.heap.size + 1) (.slice oy ny ny)) := Lib.hid (HIY4.out.ch (by omega) hch)
  have HIZ5 : Hid (z.In w5 (w.heap.size + 1) (.slice oz nz nz)) := Lib.hid (hin.mono (by have := lt_of_heap (K4.out.at (List.mem_cons_of_mem _ (List.mem_cons_of_mem _ (List.mem_cons_of_mem _ (List.mem_cons_self ..))))); omega) _ _)
  have HR5 := Lib.hid hrd
  clear hch hin hrd K4 HIA4 HIY4 HR4
  obtain ⟨⟨y0, y1, y2, y3, y4, y5⟩, _⟩ := six_facts (K5.out.at (List.mem_cons_self ..))
  obtain ⟨⟨k0, k1, k2, k3, k4, k5⟩, _⟩ := six_facts (K5.out.at (List.mem_cons_of_mem _ (List.mem_cons_self ..)))
  obtain ⟨⟨x0, x1, x2, x3, x4, x5⟩, _⟩ := six_facts (K5.out.at (List.mem_cons_of_mem _ (List.mem_cons_of_mem _ (List.mem_cons_self ..))))
  have q1 := lt_of_heap (K5.out.at (List.mem_cons_self ..))
  have q2 := lt_of_heap (K5.out.at (List.mem_cons_of_mem _ (List.mem_cons_self ..)))
  have q3 := lt_of_heap (K5.out.at (List.mem_cons_of_mem _ (List.mem_cons_of_mem _ (List.mem_cons_self ..))))
  have hR := K5.out.at (List.mem_cons_of_mem _ (List.mem_cons_of_mem _ (List.mem_cons_of_mem _ (List.mem_cons_self ..))))
  have HRA : Hid (∀ o o', ((w5.alloc o).alloc o').heap[w.heap.size]? = some zrO) := Lib.hid (fun o o' => alloc_keeps (alloc_keeps hR o) o')
  unfold zrO at HRA
  clear hR
  generalize w1.heap.size = A1 at *
  generalize w2.heap.size = A2 at *
  generalize w3.heap.size = A3 at *
  go_wp2_with (refine wpList_store_ar rfl _ _ rfl rfl w.heap.size t1.text 0 ⟨#[]⟩ t1.start 0 (.slice (some ⟨w5.heap.size + 1, 0, none⟩) 3 3) rfl rfl rfl _ (HRA.out _ _) rfl ?_)
  have h5 := K5.out.ch.1.size
  refine bodyPost_ret (results_ar rfl _ _ w.heap.size _ rfl (setRow_self (HRA.out _ _) _) rfl) rfl ⟨⟨_, rfl, ?_, ((HR5.out.alloc _).alloc _).setRow (by omega) _⟩, (((K5.out.add hrb _).add hrb _).ch).setRow (Nat.le_refl _) (Nat.le_of_lt hrb) _⟩
  have hN : ∀ {tr : Tr} {kv : Value} (_ : tr.In w5 (w.heap.size + 1) kv) (o o' : Obj) (c : Array Value), tr.In (((w5.alloc o).alloc o').setRow w.heap.size c) w.heap.size kv := fun {tr kv} hi o o' c =>
    ((hi.kept (fun k _ hk => (alloc_at_old _ _ k (by simp; omega)).trans (alloc_at_old _ _ k hk)) tr kv).setRow (by omega) c).mono (by omega) _ _
  refine ⟨w5.heap.size + 1, _, _, _, rfl, by omega, ?_, hN HIA5.out _ _ _, hN HIY5.out _ _ _, hN HIZ5.out _ _ _⟩
  show (((w5.heap.push _).push _).modify w.heap.size _)[w5.heap.size + 1]? = _
  rw [Array.getElem?_modify, if_neg (by omega), Array.getElem?_push, if_pos (by simp)]
  rfl

end Go.Proofs.YtlmoeldillpamaaDoor
