/- The contract of operand. -/
import Derived.Test.YtlmoeldillpamaaDoorArCond
namespace Go.Proofs.YtlmoeldillpamaaDoor
open Go.RowKit

theorem field_start (k st en : Int) (x : ByteArray) (n : Int) (o : Bool) (w : World) : (Instr.field 76 (.agg #[.int .i64 k, .int .i64 st, .int .i64 en, .string x, .int .i64 n, .bool o]) 1).run Tryd.prog w = .ok (.int .i64 st) w := by kernel_rfl
theorem ch_alloc (rb : Nat) (w : World) (o : Obj) (hrb : rb < w.heap.size) : Ch rb w (w.alloc o) := (Ch.refl rb w).alloc o (Nat.le_of_lt hrb)

set_option maxRecDepth 100000 in
set_option maxHeartbeats 4000000 in
theorem opd_num {l : List Int} {rb : Nat} {bv : Value} {s : Nat → Addr} (t : Tk) (w : World) (hk : t.kind = 2) (ho : t.over = false) (hg : goesB l t.stop = false) (hy : Rdy l rb bv s t w) :
    Calls Tryd.prog 79 #[.pointer (some ⟨rb, 0, none⟩)] w fun e w' => Out rb w.heap.size bv s (.ok (.num t.num t.start) (tok l t.stop)) e w' ∧ Ch rb w w' := by
  have hrb := lt_of_heap hy.rd
  have HB : Hid (∀ W, Below w.heap.size w W → Calls Tryd.prog 83 #[.pointer (some ⟨rb, 0, none⟩)] W fun e w' => Good rb W.heap.size bv (.num t.num t.start) (tok l t.stop) e w' ∧ Ch rb W w') := Lib.hid (fun W hW => constant_yes rb bv l t W (hy.below hW).rd (hy.below hW).cx.sl hy.st ho hg)
  have HC : Hid (∀ o, Below w.heap.size w (w.alloc o)) := Lib.hid (fun o => (Below.refl _ _).alloc (Nat.le_refl _) o)
  obtain ⟨⟨c0, c1, c2, c3, c4, c5, c6⟩, _, hb⟩ := hy.rd.facts
  rw [hk] at c1
  generalize tok l t.stop = t' at *
  clear hy hg ho hk
  go_enter Tryd.func79, Tryd.ntmps79
  go_wp2_with fail
  refine (HB.out _ (HC.out _)).mono ?_
  rintro e w1 ⟨⟨ka, rfl, hin, hrd⟩, hch⟩
  obtain rfl : ka = .slice none 0 0 := hin
  have K1 := Lib.hid ((Kp.start rb w hrb zrO).next hrb hch)
  have HR1 := Lib.hid hrd
  have HZ : Hid (w1.heap[w.heap.size]? = some zrO) := Lib.hid (K1.out.at (List.mem_cons_self ..))
  unfold zrO at HZ
  clear hrd hch c0 c1 c2 c3 c4 c5 c6
  go_wp2_with (refine wpList_store_ar rfl _ _ rfl rfl w.heap.size ⟨#[110, 117, 109]⟩ t.num ⟨#[]⟩ t.start 0 (.slice none 0 0) rfl rfl rfl _ HZ.out rfl ?_)
  exact bodyPost_ret (results_ar rfl _ _ w.heap.size _ rfl (setRow_self HZ.out _) rfl) rfl ⟨⟨_, rfl, rfl, HR1.out.setRow (by omega) _⟩, K1.out.ch.setRow (Nat.le_refl _) (Nat.le_of_lt hrb) _⟩

set_option maxRecDepth 100000 in
set_option maxHeartbeats 4000000 in
theorem opd_over {l : List Int} {rb : Nat} {bv : Value} {s : Nat → Addr} (t : Tk) (w : World) (hk : t.kind = 2) (ho : t.over = true) (hy : Rdy l rb bv s t w) :
    Calls Tryd.prog 79 #[.pointer (some ⟨rb, 0, none⟩)] w fun e w' => Out rb w.heap.size bv s (.bad 6 t.start) e w' ∧ Ch rb w w' := by
  have hrb := lt_of_heap hy.rd
  have HB : Hid (∀ W, Below w.heap.size w W → Calls Tryd.prog 83 #[.pointer (some ⟨rb, 0, none⟩)] W fun e w' => Out rb W.heap.size bv s (.bad 6 t.start) e w' ∧ Ch rb W w') := Lib.hid (fun W hW => constant_over rb bv t s W (hy.below hW).rd (hy.below hW).cx.er ho)
  have HC : Hid (∀ o, Below w.heap.size w (w.alloc o)) := Lib.hid (fun o => (Below.refl _ _).alloc (Nat.le_refl _) o)
  obtain ⟨⟨c0, c1, c2, c3, c4, c5, c6⟩, _, hb⟩ := hy.rd.facts
  rw [hk] at c1
  go_enter Tryd.func79, Tryd.ntmps79
  go_wp2_with fail
  refine (HB.out _ (HC.out _)).mono ?_
  rintro e w1 ⟨⟨v, rfl, he⟩, hch⟩
  exact ⟨rfl, ⟨_, rfl, he⟩, (ch_alloc rb w _ hrb).trans hch⟩
set_option maxRecDepth 100000 in
set_option maxHeartbeats 4000000 in
theorem opd_goes {l : List Int} {rb : Nat} {bv : Value} {s : Nat → Addr} (t : Tk) (w : World) (hk : t.kind = 2) (ho : t.over = false) (hg : goesB l t.stop = true) (hy : Rdy l rb bv s t w) :
    Calls Tryd.prog 79 #[.pointer (some ⟨rb, 0, none⟩)] w fun e w' => Out rb w.heap.size bv s (.bad 3 t.stop) e w' ∧ Ch rb w w' := by
  have hrb := lt_of_heap hy.rd
  have HB : Hid (∀ W, Below w.heap.size w W → Calls Tryd.prog 83 #[.pointer (some ⟨rb, 0, none⟩)] W fun e w' => Out rb W.heap.size bv s (.bad 3 t.stop) e w' ∧ Ch rb W w') := Lib.hid (fun W hW => constant_goes rb bv l t s W (hy.below hW).rd (hy.below hW).cx.sl hy.st (hy.below hW).cx.er ho hg)
  have HC : Hid (∀ o, Below w.heap.size w (w.alloc o)) := Lib.hid (fun o => (Below.refl _ _).alloc (Nat.le_refl _) o)
  obtain ⟨⟨c0, c1, c2, c3, c4, c5, c6⟩, _, hb⟩ := hy.rd.facts
  rw [hk] at c1
  go_enter Tryd.func79, Tryd.ntmps79
  go_wp2_with fail
  refine (HB.out _ (HC.out _)).mono ?_
  rintro e w1 ⟨⟨v, rfl, he⟩, hch⟩
  exact ⟨rfl, ⟨_, rfl, he⟩, (ch_alloc rb w _ hrb).trans hch⟩

set_option maxRecDepth 100000 in
set_option maxHeartbeats 4000000 in
theorem opd_name {l : List Int} {rb : Nat} {bv : Value} {s : Nat → Addr} (t : Tk) (w : World) (hk : t.kind = 3) (hy : Rdy l rb bv s t w) :
    Calls Tryd.prog 79 #[.pointer (some ⟨rb, 0, none⟩)] w fun e w' => Out rb w.heap.size bv s (.ok (.name t.text t.start) (tok l t.stop)) e w' ∧ Ch rb w w' := by
  have hrb := lt_of_heap hy.rd
  have HB := Lib.hid (take_ctx hy t _ rfl hy.st)
  have HR0 := Lib.hid hy.rd
  obtain ⟨⟨c0, c1, c2, c3, c4, c5, c6⟩, _, hb⟩ := hy.rd.facts
  rw [hk] at c1
  generalize tok l t.stop = t' at *
  clear hy
  go_enter Tryd.func79, Tryd.ntmps79
  go_wp2_with fail
  refine (HB.out _ (ch_alloc rb w _ hrb) (HR0.out.alloc _)).mono ?_
  rintro e w1 ⟨rfl, hrd, hch⟩
  have K1 := Lib.hid ((Kp.start rb w hrb zrO).next hrb hch)
  have HR1 := Lib.hid hrd
  have HZ : Hid (∀ o, (w1.alloc o).heap[w.heap.size]? = some zrO) := Lib.hid (fun o => alloc_keeps (K1.out.at (List.mem_cons_self ..)) o)
  unfold zrO at HZ
  clear hrd hch c0 c1 c2 c3 c4 c5 c6 hk
  go_wp2_with (refine wpList_store_ar rfl _ _ rfl rfl w.heap.size ⟨#[110, 97, 109, 101]⟩ 0 t.text t.start 0 (.slice none 0 0) rfl rfl rfl _ (HZ.out _) rfl ?_)
  exact bodyPost_ret (results_ar rfl _ _ w.heap.size _ rfl (setRow_self (HZ.out _) _) rfl) rfl ⟨⟨_, rfl, rfl, (HR1.out.alloc _).setRow (by omega) _⟩, ((K1.out.add hrb _).ch).setRow (Nat.le_refl _) (Nat.le_of_lt hrb) _⟩

set_option maxRecDepth 100000 in
set_option maxHeartbeats 4000000 in
theorem opd_un_bad {l : List Int} {rb : Nat} {bv : Value} {s : Nat → Addr} {n : Nat} (ih : RdC l rb bv s n) (t : Tk) (w : World) (hk2 : t.kind ≠ 2) (hk3 : t.kind ≠ 3) (hu : ¬ unB t.text = sEmpty) (c p : Nat) (h : rd l n .opd (tok l t.stop) = some (.bad c p)) (hy : Rdy l rb bv s t w) :
    Calls Tryd.prog 79 #[.pointer (some ⟨rb, 0, none⟩)] w fun e w' => Out rb w.heap.size bv s (.bad c p) e w' ∧ Ch rb w w' := by
  have hrb := lt_of_heap hy.rd
  have HB := Lib.hid (take_ctx hy t _ rfl hy.st)
  have HU : Hid (∀ W, Calls Tryd.prog 84 #[.string t.text] W fun e w' => e = .returned (.string (unB t.text)) ∧ W = w') := Lib.hid (fun W => unary_any t.text W)
  have hst := tok_stop l t.stop hy.st
  have eu : (unB t.text).toList.isEmpty = false := by have := tl_no (l := []) hu; simpa using this
  have HO : Hid (∀ W, Ch rb w W → Rd W rb bv (tok l t.stop) → Calls Tryd.prog 79 #[.pointer (some ⟨rb, 0, none⟩)] W fun e w' => Out rb W.heap.size bv s (.bad c p) e w' ∧ Ch rb W w') := Lib.hid (fun W hW hr => ih.opd _ _ W h (hy.ch hW hr hst))
  have HR0 := Lib.hid hy.rd
  obtain ⟨⟨c0, c1, c2, c3, c4, c5, c6⟩, _, hb⟩ := hy.rd.facts
  have e2 : (t.kind == 2) = false := by simpa using hk2
  have e3 : (t.kind == 3) = false := by simpa using hk3
  generalize tok l t.stop = t' at *
  generalize unB t.text = u at *
  clear hy hk2 hk3 ih h hu
  have hfs := field_start t.kind t.start t.stop t.text t.num t.over
  go_enter Tryd.func79, Tryd.ntmps79
  go_wp2_with (go_at_call 84; refine (HU.out _).mono ?_; rintro e w' ⟨rfl, rfl⟩)
  refine (HB.out _ (ch_alloc rb w _ hrb) (HR0.out.alloc _)).mono ?_
  rintro e w1 ⟨rfl, hrd, hch⟩
  have K1 := Lib.hid ((Kp.start rb w hrb zrO).next hrb hch)
  have HR1 := Lib.hid hrd
  clear hrd hch c0 c1 c2 c3 c4 c5 c6
  go_wp2_with fail
  refine (HO.out _ K1.out.ch HR1.out).mono ?_
  rintro e w2 ⟨⟨v, rfl, he⟩, hch⟩
  exact ⟨rfl, ⟨_, rfl, he⟩, K1.out.ch.trans hch⟩

set_option maxRecDepth 100000 in
set_option maxHeartbeats 4000000 in
theorem opd_un {l : List Int} {rb : Nat} {bv : Value} {s : Nat → Addr} {n : Nat} (ih : RdC l rb bv s n) (t : Tk) (w : World) (hk2 : t.kind ≠ 2) (hk3 : t.kind ≠ 3) (hu : ¬ unB t.text = sEmpty) (a : Tr) (t1 : Tk) (h : rd l n .opd (tok l t.stop) = some (.ok a t1)) (hy : Rdy l rb bv s t w) :
    Calls Tryd.prog 79 #[.pointer (some ⟨rb, 0, none⟩)] w fun e w' => Out rb w.heap.size bv s (.ok (.un (unB t.text) t.start a) t1) e w' ∧ Ch rb w w' := by
  have hrb := lt_of_heap hy.rd
  have HB := Lib.hid (take_ctx hy t _ rfl hy.st)
  have HU : Hid (∀ W, Calls Tryd.prog 84 #[.string t.text] W fun e w' => e = .returned (.string (unB t.text)) ∧ W = w') := Lib.hid (fun W => unary_any t.text W)
  have hst := tok_stop l t.stop hy.st
  have eu : (unB t.text).toList.isEmpty = false := by have := tl_no (l := []) hu; simpa using this
  have HO : Hid (∀ W, Ch rb w W → Rd W rb bv (tok l t.stop) → Calls Tryd.prog 79 #[.pointer (some ⟨rb, 0, none⟩)] W fun e w' => Out rb W.heap.size bv s (.ok a t1) e w' ∧ Ch rb W w') := Lib.hid (fun W hW hr => ih.opd _ _ W h (hy.ch hW hr hst))
  have HR0 := Lib.hid hy.rd
  obtain ⟨⟨c0, c1, c2, c3, c4, c5, c6⟩, _, hb⟩ := hy.rd.facts
  have e2 : (t.kind == 2) = false := by simpa using hk2
  have e3 : (t.kind == 3) = false := by simpa using hk3
  generalize tok l t.stop = t' at *
  generalize unB t.text = u at *
  clear hy hk2 hk3 ih h hu
  have hfs := field_start t.kind t.start t.stop t.text t.num t.over
  go_enter Tryd.func79, Tryd.ntmps79
  go_wp2_with (go_at_call 84; refine (HU.out _).mono ?_; rintro e w' ⟨rfl, rfl⟩)
  refine (HB.out _ (ch_alloc rb w _ hrb) (HR0.out.alloc _)).mono ?_
  rintro e w1 ⟨rfl, hrd, hch⟩
  have K1 := Lib.hid ((Kp.start rb w hrb zrO).next hrb hch)
  have HR1 := Lib.hid hrd
  clear hrd hch c0 c1 c2 c3 c4 c5 c6
  go_wp2_with fail
  refine (HO.out _ K1.out.ch HR1.out).mono ?_
  rintro e w2 ⟨⟨ka, rfl, hin, hrd⟩, hch⟩
  obtain ⟨oa, na, rfl⟩ := hin.shape
  have K2 := Lib.hid (K1.out.next hrb hch)
  have HIA := Lib.hid (hin.mono (by have := lt_of_heap (K1.out.at (List.mem_cons_self ..)); omega : w.heap.size + 1 ≤ w1.heap.size) _ _)
  have HR2 := Lib.hid hrd
  have HZ : Hid (∀ o, (w2.alloc o).heap[w.heap.size]? = some zrO) := Lib.hid (fun o => alloc_keeps (K2.out.at (List.mem_cons_self ..)) o)
  unfold zrO at HZ
  have h2 := lt_of_heap (K2.out.at (List.mem_cons_self ..))
  clear hin hrd hch
  go_wp2_with (refine wpList_store_ar rfl _ _ rfl rfl w.heap.size u 0 ⟨#[]⟩ t.start 0 (.slice (some ⟨w2.heap.size, 0, none⟩) 1 1) rfl rfl rfl _ (HZ.out _) rfl ?_)
  refine bodyPost_ret (results_ar rfl _ _ w.heap.size _ rfl (setRow_self (HZ.out _) _) rfl) rfl ⟨⟨_, rfl, ?_, (HR2.out.alloc _).setRow (by omega) _⟩, ((K2.out.add hrb _).ch).setRow (Nat.le_refl _) (Nat.le_of_lt hrb) _⟩
  refine ⟨w2.heap.size, _, rfl, by omega, ?_, ((HIA.out.kept (fun k _ hk => alloc_at_old _ _ k hk) a _).setRow (by omega) _).mono (by omega) _ _⟩
  show ((w2.heap.push _).modify w.heap.size _)[w2.heap.size]? = _
  rw [Array.getElem?_modify, if_neg (by omega), Array.getElem?_push, if_pos rfl]
  rfl

set_option maxRecDepth 100000 in
set_option maxHeartbeats 4000000 in
theorem opd_par_bad {l : List Int} {rb : Nat} {bv : Value} {s : Nat → Addr} {n : Nat} (ih : RdC l rb bv s n) (t : Tk) (w : World) (hk2 : t.kind ≠ 2) (hk3 : t.kind ≠ 3) (hu : unB t.text = sEmpty) (hp : t.text = sOpen) (c p : Nat) (h : rd l n .expr (tok l t.stop) = some (.bad c p)) (hy : Rdy l rb bv s t w) :
    Calls Tryd.prog 79 #[.pointer (some ⟨rb, 0, none⟩)] w fun e w' => Out rb w.heap.size bv s (.bad c p) e w' ∧ Ch rb w w' := by
  have hrb := lt_of_heap hy.rd
  have HB := Lib.hid (take_ctx hy t _ rfl hy.st)
  have HU : Hid (∀ W, Calls Tryd.prog 84 #[.string t.text] W fun e w' => e = .returned (.string (unB t.text)) ∧ W = w') := Lib.hid (fun W => unary_any t.text W)
  have hst := tok_stop l t.stop hy.st
  have hu' : unB t.text = ⟨#[]⟩ := hu
  rw [hu'] at HU
  have ep : (t.text.toList == [40]) = true := by rw [tl_beq]; exact decide_eq_true hp
  have HE : Hid (∀ W, Ch rb w W → Rd W rb bv (tok l t.stop) → Calls Tryd.prog 33 #[.pointer (some ⟨rb, 0, none⟩)] W fun e w' => Out rb W.heap.size bv s (.bad c p) e w' ∧ Ch rb W w') := Lib.hid (fun W hW hr => ih.expr _ _ W h (hy.ch hW hr hst))
  have HR0 := Lib.hid hy.rd
  obtain ⟨⟨c0, c1, c2, c3, c4, c5, c6⟩, _, hb⟩ := hy.rd.facts
  have e2 : (t.kind == 2) = false := by simpa using hk2
  have e3 : (t.kind == 3) = false := by simpa using hk3
  generalize tok l t.stop = t' at *
  clear hy hk2 hk3 ih h hu hp hu'
  go_enter Tryd.func79, Tryd.ntmps79
  go_wp2_with (go_at_call 84; refine (HU.out _).mono ?_; rintro e w' ⟨rfl, rfl⟩)
  refine (HB.out _ (ch_alloc rb w _ hrb) (HR0.out.alloc _)).mono ?_
  rintro e w1 ⟨rfl, hrd, hch⟩
  have K1 := Lib.hid ((Kp.start rb w hrb zrO).next hrb hch)
  have HR1 := Lib.hid hrd
  clear hrd hch c0 c1 c2 c3 c4 c5 c6
  go_wp2_with fail
  refine (HE.out _ K1.out.ch HR1.out).mono ?_
  rintro e w2 ⟨⟨v, rfl, he⟩, hch⟩
  exact ⟨rfl, ⟨_, rfl, he⟩, K1.out.ch.trans hch⟩

set_option maxRecDepth 100000 in
set_option maxHeartbeats 4000000 in
theorem opd_par_no {l : List Int} {rb : Nat} {bv : Value} {s : Nat → Addr} {n : Nat} (ih : RdC l rb bv s n) (t : Tk) (w : World) (hk2 : t.kind ≠ 2) (hk3 : t.kind ≠ 3) (hu : unB t.text = sEmpty) (hp : t.text = sOpen) (a : Tr) (t1 : Tk) (h : rd l n .expr (tok l t.stop) = some (.ok a t1)) (hc : ¬ t1.text = sShut) (hy : Rdy l rb bv s t w) :
    Calls Tryd.prog 79 #[.pointer (some ⟨rb, 0, none⟩)] w fun e w' => Out rb w.heap.size bv s (refuse t1) e w' ∧ Ch rb w w' := by
  have hrb := lt_of_heap hy.rd
  have HB := Lib.hid (take_ctx hy t _ rfl hy.st)
  have HU : Hid (∀ W, Calls Tryd.prog 84 #[.string t.text] W fun e w' => e = .returned (.string (unB t.text)) ∧ W = w') := Lib.hid (fun W => unary_any t.text W)
  have hst := tok_stop l t.stop hy.st
  have hu' : unB t.text = ⟨#[]⟩ := hu
  rw [hu'] at HU
  have ep : (t.text.toList == [40]) = true := by rw [tl_beq]; exact decide_eq_true hp
  have HE : Hid (∀ W, Ch rb w W → Rd W rb bv (tok l t.stop) → Calls Tryd.prog 33 #[.pointer (some ⟨rb, 0, none⟩)] W fun e w' => Out rb W.heap.size bv s (.ok a t1) e w' ∧ Ch rb W w') := Lib.hid (fun W hW hr => ih.expr _ _ W h (hy.ch hW hr hst))
  have hs1 := rd_stop l n _ _ t1 a h hst
  have HN : Hid (∀ W, Ch rb w W → Rd W rb bv t1 → Calls Tryd.prog 65 #[.pointer (some ⟨rb, 0, none⟩), .string ⟨#[41]⟩] W fun e w' => Bad s t1.code t1.start e w' ∧ Below W.heap.size W w') := Lib.hid (fun W hW hr => takeText_no rb bv t1 _ s W hr (hy.ch hW hr hs1).cx.er hc)
  have HR0 := Lib.hid hy.rd
  obtain ⟨⟨c0, c1, c2, c3, c4, c5, c6⟩, _, hb⟩ := hy.rd.facts
  have e2 : (t.kind == 2) = false := by simpa using hk2
  have e3 : (t.kind == 3) = false := by simpa using hk3
  generalize tok l t.stop = t' at *
  clear hy hk2 hk3 ih h hu hp hu' hc
  go_enter Tryd.func79, Tryd.ntmps79
  go_wp2_with (go_at_call 84; refine (HU.out _).mono ?_; rintro e w' ⟨rfl, rfl⟩)
  refine (HB.out _ (ch_alloc rb w _ hrb) (HR0.out.alloc _)).mono ?_
  rintro e w1 ⟨rfl, hrd, hch⟩
  have K1 := Lib.hid ((Kp.start rb w hrb zrO).next hrb hch)
  have HR1 := Lib.hid hrd
  clear hrd hch c0 c1 c2 c3 c4 c5 c6
  go_wp2_with fail
  refine (HE.out _ K1.out.ch HR1.out).mono ?_
  rintro e w2 ⟨⟨ka, rfl, hin, hrd⟩, hch⟩
  obtain ⟨oa, na, rfl⟩ := hin.shape
  have K2 := Lib.hid (K1.out.next hrb hch)
  have HIA := Lib.hid (hin.mono (by have := lt_of_heap (K1.out.at (List.mem_cons_self ..)); omega : w.heap.size + 1 ≤ w1.heap.size) _ _)
  have HR2 := Lib.hid hrd
  clear hin hrd hch
  go_wp2_with fail
  have K2a := Lib.hid (K2.out.add hrb (arO a (.slice oa na na)))
  refine (HN.out _ K2a.out.ch (HR2.out.alloc _)).mono ?_
  rintro e w3 ⟨⟨v, rfl, he⟩, hb3⟩
  exact ⟨rfl, ⟨_, rfl, he⟩, K2a.out.ch.step hb3 (by have := K2a.out.ch.1.size; omega)⟩

set_option maxRecDepth 100000 in
set_option maxHeartbeats 4000000 in
theorem opd_par_yes {l : List Int} {rb : Nat} {bv : Value} {s : Nat → Addr} {n : Nat} (ih : RdC l rb bv s n) (t : Tk) (w : World) (hk2 : t.kind ≠ 2) (hk3 : t.kind ≠ 3) (hu : unB t.text = sEmpty) (hp : t.text = sOpen) (a : Tr) (t1 : Tk) (h : rd l n .expr (tok l t.stop) = some (.ok a t1)) (hc : t1.text = sShut) (hy : Rdy l rb bv s t w) :
    Calls Tryd.prog 79 #[.pointer (some ⟨rb, 0, none⟩)] w fun e w' => Out rb w.heap.size bv s (.ok a (tok l t1.stop)) e w' ∧ Ch rb w w' := by
  have hrb := lt_of_heap hy.rd
  have HB := Lib.hid (take_ctx hy t _ rfl hy.st)
  have HU : Hid (∀ W, Calls Tryd.prog 84 #[.string t.text] W fun e w' => e = .returned (.string (unB t.text)) ∧ W = w') := Lib.hid (fun W => unary_any t.text W)
  have hst := tok_stop l t.stop hy.st
  have hu' : unB t.text = ⟨#[]⟩ := hu
  rw [hu'] at HU
  have ep : (t.text.toList == [40]) = true := by rw [tl_beq]; exact decide_eq_true hp
  have HE : Hid (∀ W, Ch rb w W → Rd W rb bv (tok l t.stop) → Calls Tryd.prog 33 #[.pointer (some ⟨rb, 0, none⟩)] W fun e w' => Out rb W.heap.size bv s (.ok a t1) e w' ∧ Ch rb W w') := Lib.hid (fun W hW hr => ih.expr _ _ W h (hy.ch hW hr hst))
  have hs1 := rd_stop l n _ _ t1 a h hst
  have HN : Hid (∀ W, Ch rb w W → Rd W rb bv t1 → Calls Tryd.prog 65 #[.pointer (some ⟨rb, 0, none⟩), .string ⟨#[41]⟩] W fun e w' => e = .returned (.tuple #[]) ∧ Rd w' rb bv (tok l t1.stop) ∧ Ch rb W w') := Lib.hid (fun W hW hr => takeText_yes rb bv l t1 _ W hr (hy.ch hW hr hs1).cx.sl hs1 hc)
  generalize tok l t1.stop = t2 at *
  have HR0 := Lib.hid hy.rd
  obtain ⟨⟨c0, c1, c2, c3, c4, c5, c6⟩, _, hb⟩ := hy.rd.facts
  have e2 : (t.kind == 2) = false := by simpa using hk2
  have e3 : (t.kind == 3) = false := by simpa using hk3
  generalize tok l t.stop = t' at *
  clear hy hk2 hk3 ih h hu hp hu' hc
  go_enter Tryd.func79, Tryd.ntmps79
  go_wp2_with (go_at_call 84; refine (HU.out _).mono ?_; rintro e w' ⟨rfl, rfl⟩)
  refine (HB.out _ (ch_alloc rb w _ hrb) (HR0.out.alloc _)).mono ?_
  rintro e w1 ⟨rfl, hrd, hch⟩
  have K1 := Lib.hid ((Kp.start rb w hrb zrO).next hrb hch)
  have HR1 := Lib.hid hrd
  clear hrd hch c0 c1 c2 c3 c4 c5 c6
  go_wp2_with fail
  refine (HE.out _ K1.out.ch HR1.out).mono ?_
  rintro e w2 ⟨⟨ka, rfl, hin, hrd⟩, hch⟩
  obtain ⟨oa, na, rfl⟩ := hin.shape
  have K2 := Lib.hid (K1.out.next hrb hch)
  have HIA := Lib.hid (hin.mono (by have := lt_of_heap (K1.out.at (List.mem_cons_self ..)); omega : w.heap.size + 1 ≤ w1.heap.size) _ _)
  have HR2 := Lib.hid hrd
  clear hin hrd hch
  go_wp2_with fail
  have K2a := Lib.hid (K2.out.add hrb (arO a (.slice oa na na)))
  refine (HN.out _ K2a.out.ch (HR2.out.alloc _)).mono ?_
  rintro e w3 ⟨rfl, hrd, hch⟩
  have K3 := Lib.hid (K2a.out.next hrb hch)
  have HIA3 : Hid (a.In w3 (w.heap.size + 1) (.slice oa na na)) := Lib.hid ((HIA.out.kept (fun k _ hk => alloc_at_old _ _ k hk) a _).ch (by omega) hch)
  have HR3 := Lib.hid hrd
  clear hch hrd K2 K2a
  obtain ⟨⟨x0, x1, x2, x3, x4, x5⟩, _⟩ := six_facts (K3.out.at (List.mem_cons_self ..))
  have HZ : Hid (w3.heap[w.heap.size]? = some zrO) := Lib.hid (K3.out.at (List.mem_cons_of_mem _ (List.mem_cons_self ..)))
  unfold zrO at HZ
  generalize w2.heap.size = A2 at *
  go_wp2_with (refine wpList_store_ar rfl _ _ rfl rfl w.heap.size a.op a.val a.nm a.pos a.apos _ HIA3.out.one rfl rfl _ HZ.out rfl ?_)
  exact bodyPost_ret (results_ar rfl _ _ w.heap.size _ rfl (setRow_self HZ.out _) rfl) rfl ⟨⟨_, rfl, (HIA3.out.setRow (by omega) _).mono (by omega) _ _, HR3.out.setRow (by omega) _⟩, K3.out.ch.setRow (Nat.le_refl _) (Nat.le_of_lt hrb) _⟩

set_option maxRecDepth 100000 in
set_option maxHeartbeats 4000000 in
theorem opd_no {l : List Int} {rb : Nat} {bv : Value} {s : Nat → Addr} (t : Tk) (w : World) (hk2 : t.kind ≠ 2) (hk3 : t.kind ≠ 3) (hu : unB t.text = sEmpty) (hp : ¬ t.text = sOpen) (hy : Rdy l rb bv s t w) :
    Calls Tryd.prog 79 #[.pointer (some ⟨rb, 0, none⟩)] w fun e w' => Out rb w.heap.size bv s (refuse t) e w' ∧ Ch rb w w' := by
  have hrb := lt_of_heap hy.rd
  have HB := Lib.hid (take_ctx hy t _ rfl hy.st)
  have HU : Hid (∀ W, Calls Tryd.prog 84 #[.string t.text] W fun e w' => e = .returned (.string (unB t.text)) ∧ W = w') := Lib.hid (fun W => unary_any t.text W)
  have hst := tok_stop l t.stop hy.st
  have hu' : unB t.text = ⟨#[]⟩ := hu
  rw [hu'] at HU
  have ep : (t.text.toList == [40]) = false := tl_no hp
  have HN : Hid (∀ W, Below w.heap.size w W → Calls Tryd.prog 34 #[.pointer (some ⟨rb, 0, none⟩)] W fun e w' => Bad s t.code t.start e w' ∧ Below W.heap.size W w') := Lib.hid (fun W hW => refuse_any rb bv t s W (hy.below hW).rd (hy.below hW).cx.er)
  have HR0 := Lib.hid hy.rd
  obtain ⟨⟨c0, c1, c2, c3, c4, c5, c6⟩, _, hb⟩ := hy.rd.facts
  have e2 : (t.kind == 2) = false := by simpa using hk2
  have e3 : (t.kind == 3) = false := by simpa using hk3
  generalize tok l t.stop = t' at *
  clear hy hk2 hk3 hu hp hu'
  go_enter Tryd.func79, Tryd.ntmps79
  go_wp2_with (go_at_call 84; refine (HU.out _).mono ?_; rintro e w' ⟨rfl, rfl⟩)
  refine (HN.out _ ((Below.refl _ _).alloc (Nat.le_refl _) _)).mono ?_
  rintro e w1 ⟨⟨v, rfl, he⟩, hb1⟩
  exact ⟨rfl, ⟨_, rfl, he⟩, (ch_alloc rb w _ hrb).step hb1 (by simp; omega)⟩

end Go.Proofs.YtlmoeldillpamaaDoor
