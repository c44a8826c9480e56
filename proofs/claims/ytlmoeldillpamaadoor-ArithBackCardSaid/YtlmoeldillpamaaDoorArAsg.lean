/- The contract of expr at an assignment. -/
import Derived.Test.YtlmoeldillpamaaDoorArExpr
import Derived.OrdersHeld
namespace Go.Proofs.YtlmoeldillpamaaDoor
open Go.RowKit

def Rs.map (f : Tr → Tr) : Rs → Rs
  | .ok e t => .ok (f e) t
  | .bad c p => .bad c p
/-- The world ahead of an assignment's last statement. -/
structure AsgW (w : World) (rb : Nat) (bv : Value) (t t' t2 : Tk) (B3 B4 : Nat) (W : World) : Prop where
  r : W.heap[w.heap.size]? = some (.cells #[.string ⟨#[]⟩, .int .i64 0, .string ⟨#[]⟩, .int .i64 0, .int .i64 0, .slice none 0 0] 36)
  b3 : W.heap[B3]? = some (.cells #[.int .i64 t'.kind, .int .i64 t'.start, .int .i64 t'.stop, .string t'.text, .int .i64 t'.num, .bool t'.over] 76)
  b4 : W.heap[B4]? = some (.cells #[.int .i64 t.kind, .int .i64 t.start, .int .i64 t.stop, .string t.text, .int .i64 t.num, .bool t.over] 76)
  h3 : rb < B3
  h4 : rb < B4
  n3 : B3 ≠ w.heap.size
  n4 : B4 ≠ w.heap.size
  ch : Ch rb w W
theorem AsgW.next {w : World} {rb : Nat} {bv : Value} {t t' t2 : Tk} {B3 B4 : Nat} {W W' : World} (h : AsgW w rb bv t t' t2 B3 B4 W) (hw : rb < w.heap.size) (hc : Ch rb W W') : AsgW w rb bv t t' t2 B3 B4 W' where
  r := (hc.2 _ (lt_of_heap h.r) (by omega)).trans h.r
  b3 := (hc.2 _ (lt_of_heap h.b3) (by have := h.h3; omega)).trans h.b3
  b4 := (hc.2 _ (lt_of_heap h.b4) (by have := h.h4; omega)).trans h.b4
  h3 := h.h3
  h4 := h.h4
  n3 := h.n3
  n4 := h.n4
  ch := h.ch.trans hc

theorem ch_drew {rb : Nat} {w w' : World} (h : Ch rb w w') : Ch rb w w'.drew := ⟨⟨h.1.os, h.1.tape, h.1.output, h.1.size, h.1.block⟩, h.2⟩
theorem ch_of_drew {rb : Nat} {w w' : World} (h : Ch rb w.drew w') : Ch rb w w' := ⟨⟨h.1.os, h.1.tape, h.1.output, h.1.size, h.1.block⟩, h.2⟩
theorem AsgW.cells {w : World} {rb : Nat} {bv : Value} {t t' t2 : Tk} {B3 B4 : Nat} {W : World} (h : AsgW w rb bv t t' t2 B3 B4 W) :
    W.cell? ⟨B3, 3, none⟩ = some (.string t'.text) ∧ W.cell? ⟨B4, 3, none⟩ = some (.string t.text) ∧ W.cell? ⟨B4, 1, none⟩ = some (.int .i64 t.start) ∧ W.cell? ⟨B3, 1, none⟩ = some (.int .i64 t'.start) := by
  refine ⟨?_, ?_, ?_, ?_⟩ <;> simp [World.cell?, h.b3, h.b4]

theorem alloc_at_old (w : World) (o : Obj) (k : Nat) (h : k < w.heap.size) : (w.alloc o).heap[k]? = w.heap[k]? := by
  show (w.heap.push o)[k]? = _
  rw [Array.getElem?_push, if_neg (by omega)]
/-- Six stores into a block. -/
def putA (w : World) (g : Nat) (v0 v1 v2 v3 v4 v5 : Value) : World := (((((w.setCell ⟨g, 0, none⟩ v0).setCell ⟨g, 1, none⟩ v1).setCell ⟨g, 2, none⟩ v2).setCell ⟨g, 3, none⟩ v3).setCell ⟨g, 4, none⟩ v4).setCell ⟨g, 5, none⟩ v5
theorem putA_other (w : World) (g : Nat) (v0 v1 v2 v3 v4 v5 : Value) (b : Nat) (hb : b ≠ g) : (putA w g v0 v1 v2 v3 v4 v5).heap[b]? = w.heap[b]? := by
  unfold putA
  rw [Below.heap_setCell _ _ _ _ hb, Below.heap_setCell _ _ _ _ hb, Below.heap_setCell _ _ _ _ hb, Below.heap_setCell _ _ _ _ hb, Below.heap_setCell _ _ _ _ hb, Below.heap_setCell _ _ _ _ hb]
theorem putA_at {w : World} {g : Nat} {x0 x1 x2 x3 x4 x5 : Value} {t : TypeId} (h : w.heap[g]? = some (.cells #[x0, x1, x2, x3, x4, x5] t (0, 0))) (v0 v1 v2 v3 v4 v5 : Value) :
    (putA w g v0 v1 v2 v3 v4 v5).heap[g]? = some (.cells #[v0, v1, v2, v3, v4, v5] t (0, 0)) := by
  have := set_block (set_block (set_block (set_block (set_block (set_block h 0 v0) 1 v1) 2 v2) 3 v3) 4 v4) 5 v5
  simpa [putA] using this
theorem putA_below {B : Nat} {w w' : World} (h : Below B w w') {g : Nat} (hb : B ≤ g) (v0 v1 v2 v3 v4 v5 : Value) : Below B w (putA w' g v0 v1 v2 v3 v4 v5) :=
  (((((h.setCell (p := ⟨g, 0, none⟩) hb _).setCell (p := ⟨g, 1, none⟩) hb _).setCell (p := ⟨g, 2, none⟩) hb _).setCell (p := ⟨g, 3, none⟩) hb _).setCell (p := ⟨g, 4, none⟩) hb _).setCell (p := ⟨g, 5, none⟩) hb _
theorem putA_ch {rb : Nat} {w w' : World} (h : Ch rb w w') {g : Nat} (hg : w.heap.size ≤ g) (hr : rb ≤ g) (v0 v1 v2 v3 v4 v5 : Value) : Ch rb w (putA w' g v0 v1 v2 v3 v4 v5) :=
  ⟨putA_below h.1 hr _ _ _ _ _ _, fun i hi hb => (putA_other _ _ _ _ _ _ _ _ i (by omega)).trans (h.2 i hi hb)⟩
theorem AsgW.put {w : World} {rb : Nat} {bv : Value} {t t' t2 : Tk} {B3 B4 : Nat} {W : World} (h : AsgW w rb bv t t' t2 B3 B4 W) (v0 v1 v2 v3 v4 v5 : Value) :
    let W' := (((((W.setCell ⟨w.heap.size, 0, none⟩ v0).setCell ⟨w.heap.size, 1, none⟩ v1).setCell ⟨w.heap.size, 2, none⟩ v2).setCell ⟨w.heap.size, 3, none⟩ v3).setCell ⟨w.heap.size, 4, none⟩ v4).setCell ⟨w.heap.size, 5, none⟩ v5
    W'.cell? ⟨B3, 3, none⟩ = some (.string t'.text) ∧ W'.cell? ⟨B4, 3, none⟩ = some (.string t.text) ∧ W'.cell? ⟨B4, 1, none⟩ = some (.int .i64 t.start) ∧ W'.cell? ⟨B3, 1, none⟩ = some (.int .i64 t'.start) := by
  have e3 := (putA_other W w.heap.size v0 v1 v2 v3 v4 v5 B3 h.n3).trans h.b3
  have e4 := (putA_other W w.heap.size v0 v1 v2 v3 v4 v5 B4 h.n4).trans h.b4
  unfold putA at e3 e4
  refine ⟨?_, ?_, ?_, ?_⟩ <;> simp [World.cell?, e3, e4]
set_option maxRecDepth 100000 in
set_option maxHeartbeats 4000000 in
theorem expr_asg {l : List Int} {rb : Nat} {bv : Value} {s : Nat → Addr} {n : Nat} (ih : RdC l rb bv s n) (t : Tk) (res : Rs) (w : World) (h : rd l n .expr (tok l (tok l t.stop).stop) = some res) (hk : t.kind = 3) (ha : asgB (tok l t.stop).text = true) (hy : Rdy l rb bv s t w) :
    Calls Tryd.prog 33 #[.pointer (some ⟨rb, 0, none⟩)] w fun e w' => Out rb w.heap.size bv s (res.map (.asg (tok l t.stop).text t.text t.start (tok l t.stop).start)) e w' ∧ Ch rb w w' := by
  have hrb := lt_of_heap hy.rd
  obtain ⟨t', ht'⟩ : ∃ t', tok l t.stop = t' := ⟨_, rfl⟩
  have hts : t'.stop ≤ l.length := by rw [← ht']; exact tok_stop _ _ hy.st
  rw [ht'] at ha h ⊢
  obtain ⟨t2, ht2⟩ : ∃ t2, tok l t'.stop = t2 := ⟨_, rfl⟩
  have hts2 : t2.stop ≤ l.length := by rw [← ht2]; exact tok_stop _ _ hts
  rw [ht2] at h
  have htx : t'.text.size ≤ 9223372036854775807 := by rw [← ht']; exact Nat.le_trans (tok_text _ _) hy.cx.sl.2.1
  have HE : Hid (∀ W, Ch rb w W → Rd W rb bv t2 → Calls Tryd.prog 33 #[.pointer (some ⟨rb, 0, none⟩)] W fun e w' => Out rb W.heap.size bv s res e w' ∧ Ch rb W w') := Lib.hid (fun W hW hr => ih.expr t2 res W h (hy.ch hW hr hts2))
  have HT : Hid (∀ W, Below w.heap.size w W → Calls Tryd.prog 32 #[bv, .int .i64 t.stop] W fun e w' => e = .returned (.agg #[.int .i64 t'.kind, .int .i64 t'.start, .int .i64 t'.stop, .string t'.text, .int .i64 t'.num, .bool t'.over]) ∧ Below W.heap.size W w') := Lib.hid (fun W hW => tokenAt_ex bv l t.stop t' ht' W (hy.below hW).cx.sl hy.st)
  have HT1 : Hid (∀ W, Ch rb w W → Rd W rb bv t → Calls Tryd.prog 48 #[.pointer (some ⟨rb, 0, none⟩)] W fun e w' => e = .returned (.agg #[.int .i64 t.kind, .int .i64 t.start, .int .i64 t.stop, .string t.text, .int .i64 t.num, .bool t.over]) ∧ Rd w' rb bv t' ∧ Ch rb W w') := Lib.hid (fun W hW hr => by
    have := take_any rb bv l t W hr (hy.ch hW hr hy.st).cx.sl hy.st
    rw [ht'] at this
    exact this)
  have HT2 : Hid (∀ W, Ch rb w W → Rd W rb bv t' → Calls Tryd.prog 48 #[.pointer (some ⟨rb, 0, none⟩)] W fun e w' => e = .returned (.agg #[.int .i64 t'.kind, .int .i64 t'.start, .int .i64 t'.stop, .string t'.text, .int .i64 t'.num, .bool t'.over]) ∧ Rd w' rb bv t2 ∧ Ch rb W w') := Lib.hid (fun W hW hr => by
    have := take_any rb bv l t' W hr (hy.ch hW hr hts).cx.sl hts
    rw [ht2] at this
    exact this)
  have HA : Hid (∀ W, Calls Tryd.prog 27 #[.string t'.text] W fun e w' => e = .returned (.bool true) ∧ W = w') := Lib.hid (fun W => by have := isAssigning_any t'.text W htx; rw [ha] at this; exact this)
  obtain ⟨⟨c0, c1, c2, c3, c4, c5, c6⟩, _, hb⟩ := hy.rd.facts
  rw [hk] at c1
  have HRd := Lib.hid hy.rd
  have HB : Hid (∀ o, Below w.heap.size w (w.alloc o)) := Lib.hid (fun o => (Below.refl _ _).alloc (Nat.le_refl _) o)
  clear ih h hy hk ha ht' htx hts ht2 hts2
  go_enter Tryd.func33, Tryd.ntmps33
  go_upto_region 3 with (fail)
  obtain ⟨W, hW⟩ : ∃ W : World, W = w.alloc (.cells #[.string ⟨#[]⟩, .int .i64 0, .string ⟨#[]⟩, .int .i64 0, .int .i64 0, .slice none 0 0] 36) := ⟨_, rfl⟩
  rw [← hW]
  have HW : Hid (Below w.heap.size w W) := Lib.hid (by rw [hW]; exact HB.out _)
  have HR : Hid (W.heap[w.heap.size]? = some (.cells #[.string ⟨#[]⟩, .int .i64 0, .string ⟨#[]⟩, .int .i64 0, .int .i64 0, .slice none 0 0] 36)) := Lib.hid (by rw [hW]; exact heap_alloc_last w _)
  clear hW c0 c1 c2 c3 c4 c5 c6
  have HRW : Hid (Rd W rb bv t) := Lib.hid ((HW.out.block rb hrb).trans HRd.out)
  obtain ⟨⟨c0, c1, c2, c3, c4, c5, c6⟩, _, hb'⟩ := HRW.out.facts
  go_cut [3] (fun s3 wx => Peek W t' s3 wx)
  case first =>
    go_region_with (first
      | (go_at_call 32; (with_reducible refine (HT.out W.drew (HW.out.drew)).mono ?_); rintro e w1 ⟨rfl, hb1⟩)
      | (go_at_call 32; (with_reducible refine (HT.out (W.alloc (.cells #[.int .i64 0, .int .i64 0, .int .i64 0, .string ⟨#[]⟩, .int .i64 0, .bool false] 76)).drew (HW.out.trans ((below_drew_alloc W _).mono HW.out.size))).mono ?_); rintro e w1 ⟨rfl, hb1⟩; have HZ : Hid (w1.heap[W.heap.size]? = some (.cells #[.int .i64 0, .int .i64 0, .int .i64 0, .string ⟨#[]⟩, .int .i64 0, .bool false] 76)) := Lib.hid ((hb1.block W.heap.size (by simp)).trans (heap_alloc_last W _)); obtain ⟨⟨z0, z1, z2, z3, z4, z5⟩, y0, y1, y2, y3, y4, y5⟩ := six_facts HZ.out))
    all_goals
      go_wp2_with fail
      go_meet
      first
        | exact ⟨w1.heap.size, rfl, hb1.size, heap_alloc_last w1 _, ((Below.refl _ _).drew.trans hb1).alloc (hb1.size) _⟩
        | exact ⟨W.heap.size, rfl, Nat.le_refl _, put6_at HZ.out t', below_put6 ((below_drew_alloc W _).trans (hb1.mono (by simp))) (Nat.le_refl _) t'⟩
  case rest =>
    obtain ⟨B3, rfl, hB, hblk, hbl⟩ := hcut
    have HBlk := Lib.hid hblk
    have HBl := Lib.hid hbl
    clear hblk hbl c0 c1 c2 c3 c4 c5 c6
    have HWc : Hid (Below w.heap.size w wc) := Lib.hid (HW.out.trans (HBl.out.mono HW.out.size))
    have HCc : Hid (Ch rb w wc) := Lib.hid (Ch.of_below HWc.out (Nat.le_of_lt hrb))
    have hsz := HW.out.size
    have hRW := lt_of_heap HR.out
    have HRc : Hid (wc.heap[w.heap.size]? = some (.cells #[.string ⟨#[]⟩, .int .i64 0, .string ⟨#[]⟩, .int .i64 0, .int .i64 0, .slice none 0 0] 36)) := Lib.hid ((HBl.out.block _ hRW).trans HR.out)
    have HRdc : Hid (Rd wc rb bv t) := Lib.hid ((HWc.out.block rb hrb).trans HRd.out)
    obtain ⟨⟨z0, z1, z2, z3, z4, z5⟩, _⟩ := six_facts HBlk.out
    go_wp2_with (first | (go_at_call 27; refine (HA.out _).mono ?_; rintro e w' ⟨rfl, rfl⟩))
    refine (HT1.out _ HCc.out HRdc.out).mono ?_
    rintro e w1 ⟨rfl, hr1, hc1⟩
    have HR1 := Lib.hid hr1
    have HC1 := Lib.hid hc1
    clear hr1 hc1 z0 z1 z2 z3 z4 z5
    have HAl : Hid (∀ o, Ch rb w (w1.alloc o)) := Lib.hid (fun o => (HCc.out.trans HC1.out).alloc o (by have := HC1.out.1.size; have := HWc.out.size; omega))
    have HRl : Hid (∀ o, Rd (w1.alloc o) rb bv t') := Lib.hid (fun o => HR1.out.alloc o)
    go_wp2_with fail
    refine (HT2.out _ (HAl.out _) (HRl.out _)).mono ?_
    rintro e w2 ⟨rfl, hr2, hc2⟩
    have HX : Hid (AsgW w rb bv t t' t2 B3 w1.heap.size w2) := Lib.hid (AsgW.next (W := w1.alloc (.cells #[.int .i64 t.kind, .int .i64 t.start, .int .i64 t.stop, .string t.text, .int .i64 t.num, .bool t.over] 76)) ⟨alloc_keeps ((HC1.out.2 _ (lt_of_heap HRc.out) (by omega)).trans HRc.out) _, alloc_keeps ((HC1.out.2 _ (lt_of_heap HBlk.out) (by omega)).trans HBlk.out) _, heap_alloc_last w1 _, by omega, by have := HC1.out.1.size; have := HWc.out.size; omega, by omega, by have := HC1.out.1.size; have := lt_of_heap HRc.out; omega, HAl.out _⟩ hrb hc2)
    have HR2 := Lib.hid hr2
    clear hr2 hc2
    go_wp2_with fail
    generalize w1.heap.size = B4 at *
    have HE8 : Hid (Calls Tryd.prog 33 #[.pointer (some ⟨rb, 0, none⟩)] w2.drew fun e w' => Out rb w2.heap.size bv s res e w' ∧ Ch rb w2.drew w') := Lib.hid (HE.out w2.drew (ch_drew HX.out.ch) HR2.out)
    have HXd : Hid (AsgW w rb bv t t' t2 B3 B4 w2.drew) := Lib.hid (HX.out.next hrb (ch_drew (Ch.refl rb w2)))
    clear HAl HRl HC1 HR1
    have hb2 := HX.out.ch.1.size
    cases res with
    | ok tr t3 =>
      go_region_held3 (fun w' => w'.cell? ⟨B3, 3, none⟩ = some (.string t'.text) ∧ w'.cell? ⟨B4, 3, none⟩ = some (.string t.text) ∧ w'.cell? ⟨B4, 1, none⟩ = some (.int .i64 t.start) ∧ w'.cell? ⟨B3, 1, none⟩ = some (.int .i64 t'.start))
        (first | with_reducible exact HX.out.cells | with_reducible exact HXd.out.cells | with_reducible exact HX3.out.cells | with_reducible exact HX4.out.cells | with_reducible exact HX4.out.put _ _ _ _ _ _)
        (first | (go_at_call 33; (with_reducible refine HE8.out.mono ?_); rintro e w3 ⟨⟨kv, rfl, hin, hrd⟩, hch⟩; have HIN := Lib.hid hin; have HRD := Lib.hid hrd; clear hin hrd; have HX3 := Lib.hid (HX.out.next hrb (ch_of_drew hch)); have HX4 := Lib.hid (HX3.out.next hrb (Ch.of_below ((Below.refl w3.heap.size w3).alloc (Nat.le_refl _) (.cells #[.string tr.op, .int .i64 tr.val, .string tr.nm, .int .i64 tr.pos, .int .i64 tr.apos, kv] 36)) (by have := HX3.out.ch.1.size; omega))); obtain ⟨⟨z0, z1, z2, z3, z4, z5⟩, y0, y1, y2, y3, y4, y5⟩ := six_facts HX4.out.r))
      obtain ⟨V, hV⟩ : ∃ V : World, V = putA (w3.alloc (.cells #[.string tr.op, .int .i64 tr.val, .string tr.nm, .int .i64 tr.pos, .int .i64 tr.apos, kv] 36)) w.heap.size (.string t'.text) (.int .i64 0) (.string t.text) (.int .i64 t.start) (.int .i64 t'.start) (.slice (some ⟨w3.heap.size, 0, none⟩) 1 1) := ⟨_, rfl⟩
      have hV' := hV
      unfold putA at hV'
      rw [← hV']
      clear hV'
      have h3s := lt_of_heap HX3.out.r
      have h2s := lt_of_heap HX.out.r
      have HVR : Hid (V.heap[w.heap.size]? = some (.cells #[.string t'.text, .int .i64 0, .string t.text, .int .i64 t.start, .int .i64 t'.start, .slice (some ⟨w3.heap.size, 0, none⟩) 1 1] 36)) := Lib.hid (by rw [hV]; exact putA_at HX4.out.r _ _ _ _ _ _)
      have HVI : Hid ((Tr.asg t'.text t.text t.start t'.start tr).In V w.heap.size (.slice (some ⟨w3.heap.size, 0, none⟩) 1 1)) := Lib.hid (by
        rw [hV]
        refine ⟨w3.heap.size, kv, rfl, Nat.le_of_lt h3s, (putA_other _ _ _ _ _ _ _ _ _ (by omega)).trans (heap_alloc_last w3 _), ?_⟩
        exact (HIN.out.kept (fun k hk hs => (putA_other _ _ _ _ _ _ _ _ k (by omega)).trans (alloc_at_old _ _ k hs)) tr kv).mono (by omega) _ _)
      have HVC : Hid (Ch rb w V ∧ Rd V rb bv t3) := Lib.hid (by
        rw [hV]
        refine ⟨putA_ch HX4.out.ch (Nat.le_refl _) (Nat.le_of_lt hrb) _ _ _ _ _ _, ?_⟩
        exact (putA_other _ _ _ _ _ _ _ _ rb (by omega)).trans (HRD.out.alloc _))
      clear hV z0 z1 z2 z3 z4 z5 y0 y1 y2 y3 y4 y5
      go_wp2_with fail
      exact bodyPost_ret (results_ar rfl _ _ w.heap.size _ rfl HVR.out rfl) rfl ⟨⟨_, rfl, HVI.out, HVC.out.2⟩, HVC.out.1⟩
    | bad c p =>
      refine wp_region_held (S := fun w' => w'.cell? ⟨B3, 3, none⟩ = some (.string t'.text) ∧ w'.cell? ⟨B4, 3, none⟩ = some (.string t.text) ∧ w'.cell? ⟨B4, 1, none⟩ = some (.int .i64 t.start) ∧ w'.cell? ⟨B3, 1, none⟩ = some (.int .i64 t'.start)) (by kernel_rfl) ?_
      try (change wpAnyH _ _ _ _ _ _ _ _ (World.drew _))
      refine wpAnyH_take (i := 0) (v := ?v0) rfl (by kernel_rfl) (by kernel_rfl) (by kernel_rfl) (fun _ _ _ h => h) (Or.inl ⟨by kernel_rfl, ?hy0⟩) HXd.out.cells ?rest0
      case hy0 => intro w hS; obtain ⟨x0, x1, x2, x3⟩ := hS; go_simp; first | done | with_reducible rfl
      refine wpAnyH_take (i := 1) (v := ?v1) rfl (by kernel_rfl) (by kernel_rfl) (by kernel_rfl) (fun _ _ _ h => h) (Or.inl ⟨by kernel_rfl, ?hy1⟩) HXd.out.cells ?rest1
      case hy1 => intro w hS; obtain ⟨x0, x1, x2, x3⟩ := hS; go_simp; first | done | with_reducible rfl
      refine wpAnyH_take (i := 2) (v := ?v2) rfl (by kernel_rfl) (by kernel_rfl) (by kernel_rfl) (fun _ _ _ h => h) (Or.inl ⟨by kernel_rfl, ?hy2⟩) HXd.out.cells ?rest2
      case hy2 => intro w hS; obtain ⟨x0, x1, x2, x3⟩ := hS; go_simp; first | done | with_reducible rfl
      refine wpAnyH_take (i := 3) (v := ?v3) rfl (by kernel_rfl) (by kernel_rfl) (by kernel_rfl) (fun _ _ _ h => h) (Or.inl ⟨by kernel_rfl, ?hy3⟩) HXd.out.cells ?rest3
      case hy3 => intro w hS; obtain ⟨x0, x1, x2, x3⟩ := hS; go_simp; first | done | with_reducible rfl
      refine wpAnyH_take (i := 4) (v := ?v4) rfl (by kernel_rfl) (by kernel_rfl) (by kernel_rfl) (fun _ _ _ h => h) (Or.inl ⟨by kernel_rfl, ?hy4⟩) HXd.out.cells ?rest4
      case hy4 => intro w hS; obtain ⟨x0, x1, x2, x3⟩ := hS; go_simp; first | done | with_reducible rfl
      refine wpAnyH_take (i := 5) (v := ?v5) rfl (by kernel_rfl) (by kernel_rfl) (by kernel_rfl) (fun _ _ _ h => h) (Or.inl ⟨by kernel_rfl, ?hy5⟩) HXd.out.cells ?rest5
      case hy5 => intro w hS; obtain ⟨x0, x1, x2, x3⟩ := hS; go_simp; first | done | with_reducible rfl
      refine wpAnyH_take (i := 6) (v := ?v6) rfl (by kernel_rfl) (by kernel_rfl) (by kernel_rfl) (fun _ _ _ h => h) (Or.inl ⟨by kernel_rfl, ?hy6⟩) HXd.out.cells ?rest6
      case hy6 => intro w hS; obtain ⟨x0, x1, x2, x3⟩ := hS; go_simp; first | done | with_reducible rfl
      refine wpAnyH_take (i := 7) (v := ?v7) rfl (by kernel_rfl) (by kernel_rfl) (by kernel_rfl) (fun _ _ _ h => h) (Or.inl ⟨by kernel_rfl, ?hy7⟩) HXd.out.cells ?rest7
      case hy7 => intro w hS; obtain ⟨x0, x1, x2, x3⟩ := hS; go_simp; first | done | with_reducible rfl
      refine wpAnyH_take (i := 8) (v := ?v8) rfl (by kernel_rfl) (by kernel_rfl) (by kernel_rfl) (fun _ _ _ h => h) (Or.inl ⟨by kernel_rfl, ?hy8⟩) HXd.out.cells ?rest8
      case hy8 => intro w hS; obtain ⟨x0, x1, x2, x3⟩ := hS; go_simp; first | done | with_reducible rfl
      refine wpAnyH_all (rs := [9]) (by kernel_rfl) (by simp) ?_
      intro i hi
      obtain rfl : i = 9 := by simpa using hi
      refine wpOp_step rfl (fun K' _ => ?_)
      go_simp
      go_at_call 33
      refine HE8.out.mono ?_
      rintro e w3 ⟨⟨v, rfl, he⟩, hch⟩
      exact ⟨rfl, ⟨_, rfl, he⟩, HX.out.ch.trans (ch_of_drew hch)⟩
end Go.Proofs.YtlmoeldillpamaaDoor
