import Derived.Test.YtnpkcllbpnmabaaGreatDoorKSh
import Derived.Test.YtnpkcllbpnmabaaGreatDoorKSi
import Derived.Test.YtnpkcllbpnmabaaGreatDoorReShd
import Derived.Test.YtnpkcllbpnmabaaGreatDoorKRm
import Derived.Test.YtnpkcllbpnmabaaGreatDoorKRs
namespace Go.Proofs.YtnpkcllbpnmabaaGreatDoor
set_option maxHeartbeats 8000000
set_option maxRecDepth 100000
open Go.RowKit
theorem sgn_any (cf : ByteArray → (Nat → Bool) × Bool) (e : Nat → Addr) (bv : Value) (l : List Int) (hcf : BkC cf l) (hl : Byt l) (h47 : l.length ≤ 1048576) (ext : Bool) (x0 x1 x2 cb k : Nat) (w : World) (he : Es w w.heap.size e) (hs : Sl w bv l) (hc : CapR w x0 x1 x2 cb ext bv) (hlo : 21 < cb) (hbc : ∀ x o n cap, bv = .slice (some ⟨x, o, none⟩) n cap → x ≠ cb) (h : Cur w cb (ofBys l) k) :
  Calls Tryz.prog 50 #[.pointer (some ⟨x0, 0, none⟩), .pointer (some ⟨x1, 0, none⟩), .pointer (some ⟨x2, 0, none⟩)] w (SgPost e l ext cb k (sg cf l ext k) w) := by
 rcases role_all (sgT l k) ext with q | q | q | q | q | q | q | q | q | q | q | q | ⟨q, _⟩
 ·exact sgn_ga cf e bv l hcf hl h47 ext x0 x1 x2 cb k w he hs hc hlo hbc h _ (sgC_all cf l ext k) (Or.inl q)
 ·exact sgn_ga cf e bv l hcf hl h47 ext x0 x1 x2 cb k w he hs hc hlo hbc h _ (sgC_all cf l ext k) (Or.inr q)
 ·exact sgn_gb cf e bv l hcf hl h47 ext x0 x1 x2 cb k w he hs hc hlo hbc h _ (sgC_all cf l ext k) (q)
 ·exact sgn_gd cf e bv l hcf hl h47 ext x0 x1 x2 cb k w he hs hc hlo hbc h _ (sgC_all cf l ext k) (Or.inr (Or.inr (Or.inr (Or.inr q))))
 ·exact sgn_gd cf e bv l hcf hl h47 ext x0 x1 x2 cb k w he hs hc hlo hbc h _ (sgC_all cf l ext k) (Or.inl q)
 ·exact sgn_gd cf e bv l hcf hl h47 ext x0 x1 x2 cb k w he hs hc hlo hbc h _ (sgC_all cf l ext k) (Or.inr (Or.inr (Or.inl q)))
 ·exact sgn_gd cf e bv l hcf hl h47 ext x0 x1 x2 cb k w he hs hc hlo hbc h _ (sgC_all cf l ext k) (Or.inr (Or.inl q))
 ·exact sgn_gd cf e bv l hcf hl h47 ext x0 x1 x2 cb k w he hs hc hlo hbc h _ (sgC_all cf l ext k) (Or.inr (Or.inr (Or.inr (Or.inl q))))
 ·exact sgn_gc cf e bv l hcf hl h47 ext x0 x1 x2 cb k w he hs hc hlo hbc h _ (sgC_all cf l ext k) (q)
 ·exact sgn_ge cf e bv l hcf hl h47 ext x0 x1 x2 cb k w he hs hc hlo hbc h _ (sgC_all cf l ext k) (Or.inl q)
 ·exact sgn_ge cf e bv l hcf hl h47 ext x0 x1 x2 cb k w he hs hc hlo hbc h _ (sgC_all cf l ext k) (Or.inr (Or.inl q))
 ·exact sgn_ge cf e bv l hcf hl h47 ext x0 x1 x2 cb k w he hs hc hlo hbc h _ (sgC_all cf l ext k) (Or.inr (Or.inr (Or.inl q)))
 ·exact sgn_ge cf e bv l hcf hl h47 ext x0 x1 x2 cb k w he hs hc hlo hbc h _ (sgC_all cf l ext k) (Or.inr (Or.inr (Or.inr q)))
def rdA (ext : Bool) (x0 x1 x2 : Nat) (s : Array Value) (g o : Nat) : Array Value := ([Value.bool ext, Value.func (Fn.func 50) #[] #[.pointer (some ⟨x0, 0, none⟩), .pointer (some ⟨x1, 0, none⟩), .pointer (some ⟨x2, 0, none⟩)]] ++ s.toList ++ [Value.int .i64 g, Value.int .i64 o]).toArray
structure RCx (cf : ByteArray → (Nat → Bool) × Bool) (l : List Int) (ext : Bool) (B : Nat) (e : Nat → Addr) (bv : Value) (x0 x1 x2 cb rb : Nat) : Prop where
 cfo : BkC cf l
 by' : Byt l
 len : l.length ≤ 1048576
 lo : 21 < B
 bc : B ≤ cb
 br : B ≤ rb
 ne : rb ≠ cb
 nb : ∀ x o n cap, bv = .slice (some ⟨x, o, none⟩) n cap → x < B
structure RdS (cf : ByteArray → (Nat → Bool) × Bool) (l : List Int) (ext : Bool) (B : Nat) (e : Nat → Addr) (bv : Value) (x0 x1 x2 cb rb : Nat) (k g o : Nat) (w : World) : Prop where
 cx : RCx cf l ext B e bv x0 x1 x2 cb rb
 rd : ∃ lo hi ev j, w.heap[rb]? = some (.cells (rdA ext x0 x1 x2 (sgA (sg cf l ext k).kd k (ofBys (sg cf l ext k).tx) (sg cf l ext k).nd lo hi ev) g o) 65 (0, 0)) ∧ Cur w cb (ofBys l) j ∧ SgE e ext (sg cf l ext k) lo hi ev j w
 cap : CapR w x0 x1 x2 cb ext bv
 es : Es w B e
 sl : Sl w bv l
 kl : k ≤ l.length
structure ChR (B : Nat) (w w' : World) : Prop where
 bel : Below B w w'
 oth : ∀ (i : Nat) (cs : Array Value) (T : TypeId), T ≠ 65 → T ≠ 159 → w.heap[i]? = some (.cells cs T (0, 0)) → w'.heap[i]? = w.heap[i]?
theorem ChR.refl (B : Nat) (w : World) : ChR B w w := ⟨Below.refl _ _, fun _ _ _ _ _ _ => rfl⟩
theorem ChR.trans {B : Nat} {w w1 w2 : World} (h : ChR B w w1) (h' : ChR B w1 w2) : ChR B w w2 :=
 ⟨h.bel.trans h'.bel, fun i cs T h1 h2 h3 => by
  have a := h.oth i cs T h1 h2 h3
  exact (h'.oth i cs T h1 h2 (a.trans h3)).trans a⟩
theorem ChR.below {B : Nat} {w w' : World} (h : Below w.heap.size w w') (hB : B ≤ w.heap.size) : ChR B w w' := ⟨h.mono hB, fun i _ _ _ _ h3 => h.block i (lt_blkB h3)⟩
theorem ChR.mv {B cb k : Nat} {s : ByteArray} {w w' : World} (hc : Cur w cb s k) {j : Nat} (h : Mv cb s j w w') (hB : B ≤ cb) : ChR B w w' := ⟨h.1.mono hB, fun i cs T _ h2 h3 => h.2.2 i (lt_blkB h3) (fun e => by
 subst e
 rw [hc.1] at h3
 simp only [Option.some.injEq, Obj.cells.injEq] at h3
 exact h2 h3.2.1.symm)⟩
theorem ChR.same {B : Nat} {w w' : World} (h : ChR B w w') (S : Nat → Prop) : SameR w w' S := fun k _ cs hc => h.oth k cs _ (by decide) (by decide) hc
theorem ErrQ.ch {B : Nat} {w w' : World} {e : Nat → Addr} {ext : Bool} {c : Nat} {p : Int} {v : Value} (h : ErrQ w e ext c p v) (hc : ChR B w w') : ErrQ w' e ext c p v :=
 h.kept hc.bel.size fun k cs T hT hk => hc.oth k cs T (by rcases hT with h | h | h <;> rw [h] <;> decide) (by rcases hT with h | h | h <;> rw [h] <;> decide) hk
theorem SgE.ch {B : Nat} {w w' : World} {e : Nat → Addr} {ext : Bool} {s : Sg} {lo hi : Int} {ev : Value} {j : Nat} (h : SgE e ext s lo hi ev j w) (hc : ChR B w w') : SgE e ext s lo hi ev j w' := by
 unfold SgE at *
 cases he : s.er with
 | none => rw [he] at h; exact h
 | some cp => rw [he] at h; exact ⟨h.1, h.2.ch hc⟩
theorem SgE.setRow {w : World} {e : Nat → Addr} {ext : Bool} {s : Sg} {lo hi : Int} {ev : Value} {j : Nat} (h : SgE e ext s lo hi ev j w) {g : Nat} {old : Array Value} {T : TypeId} (hg : w.heap[g]? = some (.cells old T (0, 0))) (hT : T ≠ 90 ∧ T ≠ 97 ∧ T ≠ 100) (c' : Array Value) : SgE e ext s lo hi ev j (w.setRow g c') := by
 unfold SgE at *
 cases he : s.er with
 | none => rw [he] at h; exact h
 | some cp => rw [he] at h; exact ⟨h.1, h.2.setRow hg hT _⟩
theorem sl_ch {B : Nat} {w w' : World} {v : Value} {l : List Int} (h : Sl w v l) (hc : Below B w w') (hn : ∀ x o n cap, v = .slice (some ⟨x, o, none⟩) n cap → x < B) : Sl w' v l := by
 obtain ⟨hy, hl, ⟨rfl, a, cap, rfl⟩ | ⟨b, o, cap, rfl, hcl, hcm, hr⟩⟩ := h
 ·exact ⟨hy, hl, Or.inl ⟨rfl, a, cap, rfl⟩⟩
 ·exact ⟨hy, hl, Or.inr ⟨b, o, cap, rfl, hcl, hcm, fun i hi => by rw [hc.cell (p := ⟨b, o + i, none⟩) (hn _ _ _ _ rfl)]; exact hr i hi⟩⟩
theorem RdS.next {cf : ByteArray → (Nat → Bool) × Bool} {l : List Int} {ext : Bool} {B : Nat} {e : Nat → Addr} {bv : Value} {x0 x1 x2 cb rb k g o : Nat} {w w' : World} (h : RdS cf l ext B e bv x0 x1 x2 cb rb k g o w) (hb : Below w.heap.size w w') : RdS cf l ext B e bv x0 x1 x2 cb rb k g o w' := by
 obtain ⟨lo, hi, ev, j, h1, h2, h3⟩ := h.rd
 have hB : B ≤ w.heap.size := h.es.big
 have hm := Mv.below h2 hb
 exact { cx := h.cx, rd := ⟨lo, hi, ev, j, blk_below h1 hb, hm.cur, h3.ch (ChR.below hb hB)⟩, cap := h.cap.mv hm, es := h.es.below (hb.mono hB), sl := h.sl.below hb, kl := h.kl }
theorem RdS.lt {cf : ByteArray → (Nat → Bool) × Bool} {l : List Int} {ext : Bool} {B : Nat} {e : Nat → Addr} {bv : Value} {x0 x1 x2 cb rb k g o : Nat} {w : World} (h : RdS cf l ext B e bv x0 x1 x2 cb rb k g o w) : rb < w.heap.size ∧ cb < w.heap.size := by
 obtain ⟨lo, hi, ev, j, h1, h2, h3⟩ := h.rd
 exact ⟨lt_blkB h1, h2.facts.2.2.2.2⟩
def TkPost (cf : ByteArray → (Nat → Bool) × Bool) (l : List Int) (ext : Bool) (B : Nat) (e : Nat → Addr) (bv : Value) (x0 x1 x2 cb rb : Nat) (k g o : Nat) (w : World) (x : Ending) (w' : World) : Prop :=
 ∃ lo hi ev j, x = .returned (.agg (sgA (sg cf l ext k).kd k (ofBys (sg cf l ext k).tx) (sg cf l ext k).nd lo hi ev)) ∧ SgE e ext (sg cf l ext k) lo hi ev j w' ∧ RdS cf l ext B e bv x0 x1 x2 cb rb j g o w' ∧ ChR B w w'
theorem sgA_one (kd : Int) (k : Nat) (t : ByteArray) (n : Nd) (lo hi : Int) {ev : Value} (h : ev = .nilIface ∨ ∃ U b, ev = .iface U (.pointer (some ⟨b, 0, none⟩))) : (sgA kd k t n lo hi ev).all (·.oneCell') = true := by
 unfold sgA
 rcases h with rfl | ⟨U, b, rfl⟩ <;> simp [Value.oneCell']
theorem rdA_at (ext : Bool) (x0 x1 x2 : Nat) (kd : Int) (k : Nat) (t : ByteArray) (n : Nd) (lo hi : Int) (ev : Value) (g o : Nat) : ∀ j u, (sgA kd k t n lo hi ev).toList[j]? = some u → (rdA ext x0 x1 x2 (sgA kd k t n lo hi ev) g o)[2 + j]? = some u := by
 intro j u hj
 unfold rdA
 rw [List.getElem?_toArray, List.append_assoc, List.getElem?_append_right (by simp)]
 have hl : j < (sgA kd k t n lo hi ev).toList.length := (List.getElem?_eq_some_iff.1 hj).1
 rw [List.getElem?_append_left (by simpa using hl)]
 simpa using hj
theorem SgE.one {e : Nat → Addr} {ext : Bool} {s : Sg} {lo hi : Int} {ev : Value} {j : Nat} {w : World} (h : SgE e ext s lo hi ev j w) : ev = .nilIface ∨ ∃ U b, ev = .iface U (.pointer (some ⟨b, 0, none⟩)) := by
 unfold SgE at h
 cases he : s.er with
 | none => rw [he] at h; exact Or.inl h.1
 | some cp => rw [he] at h; exact Or.inr h.1
theorem ChR.setNew {B : Nat} {w w' : World} (h : ChR B w w') {g : Nat} (hg : w.heap.size ≤ g) (hB : B ≤ g) (c : Array Value) : ChR B w (w'.setRow g c) :=
 ⟨below_setRow h.bel hB c, fun i cs T h1 h2 h3 => (setRow_other _ _ _ _ (by have := lt_blkB h3; omega)).trans (h.oth i cs T h1 h2 h3)⟩
theorem ChR.setRd {B : Nat} {w w' : World} (h : ChR B w w') {g : Nat} {old : Array Value} (hg : w.heap[g]? = some (.cells old 65 (0, 0))) (hB : B ≤ g) (c : Array Value) : ChR B w (w'.setRow g c) :=
 ⟨below_setRow h.bel hB c, fun i cs T h1 h2 h3 => (setRow_other _ _ _ _ (fun e => by
  subst e
  rw [hg] at h3
  simp only [Option.some.injEq, Obj.cells.injEq] at h3
  exact h1 h3.2.1.symm)).trans (h.oth i cs T h1 h2 h3)⟩
theorem cur_setRow {w : World} {cb k : Nat} {s : ByteArray} (h : Cur w cb s k) {g : Nat} (hg : g ≠ cb) (c : Array Value) : Cur (w.setRow g c) cb s k := ⟨(setRow_other _ _ _ _ (fun e => hg e.symm)).trans h.1, h.2⟩
theorem blk_setRow {w : World} {i : Nat} {o : Obj} (h : w.heap[i]? = some o) {g : Nat} (hg : g ≠ i) (c : Array Value) : (w.setRow g c).heap[i]? = some o := (setRow_other _ _ _ _ (fun e => hg e.symm)).trans h
theorem cap_ch {B : Nat} {w w' : World} {x0 x1 x2 cb : Nat} {ext : Bool} {bv : Value} (h : CapR w x0 x1 x2 cb ext bv) (hc : ChR B w w') : CapR w' x0 x1 x2 cb ext bv :=
 ⟨(hc.oth _ _ _ (by decide) (by decide) h.c).trans h.c, (hc.oth _ _ _ (by decide) (by decide) h.x).trans h.x, (hc.oth _ _ _ (by decide) (by decide) h.b).trans h.b, h.n0, h.n1, h.n2⟩
set_option maxHeartbeats 16000000 in
theorem rtake_any (cf : ByteArray → (Nat → Bool) × Bool) (l : List Int) (ext : Bool) (B : Nat) (e : Nat → Addr) (bv : Value) (x0 x1 x2 cb rb k g o : Nat) (w : World) (h : RdS cf l ext B e bv x0 x1 x2 cb rb k g o w) :
  Calls Tryz.prog 61 #[.pointer (some ⟨rb, 0, none⟩)] w (TkPost cf l ext B e bv x0 x1 x2 cb rb k g o w) := by
 obtain ⟨lo, hi, ev, j, hr, hcu, hse⟩ := h.rd
 have hcx := h.cx
 have hrl := lt_blkB hr
 have hev := hse.one
 have HTK : Hid (∀ x w' lo' hi' ev' j', x = Ending.returned (.agg (sgA (sg cf l ext k).kd k (ofBys (sg cf l ext k).tx) (sg cf l ext k).nd lo hi ev)) → SgE e ext (sg cf l ext k) lo hi ev j w' → RdS cf l ext B e bv x0 x1 x2 cb rb j g o w' → ChR B w w' → lo' = lo → hi' = hi → ev' = ev → j' = j → TkPost cf l ext B e bv x0 x1 x2 cb rb k g o w x w') := Lib.hid (fun x w' _ _ _ _ h1 h2 h3 h4 _ _ _ _ => ⟨lo, hi, ev, j, h1, h2, h3, h4⟩)
 have HSE := Lib.hid hse
 obtain ⟨C, hC⟩ : ∃ C, C = sgA (sg cf l ext k).kd k (ofBys (sg cf l ext k).tx) (sg cf l ext k).nd lo hi ev := ⟨_, rfl⟩
 have hCs : C.size = 15 := by rw [hC]; rfl
 have hC1 : C.all (·.oneCell') = true := by rw [hC]; exact sgA_one _ _ _ _ _ _ hev
 have hCA : ∀ i u, C.toList[i]? = some u → (rdA ext x0 x1 x2 C g o)[2 + i]? = some u := by rw [hC]; exact rdA_at _ _ _ _ _ _ _ _ _ _ _ _ _
 have hCP : ∀ (kd' : Int) (k' : Nat) (t' : ByteArray) (n' : Nd) (lo' hi' : Int) (ev' : Value), (spl (rdA ext x0 x1 x2 C g o).toList 2 (sgA kd' k' t' n' lo' hi' ev').toList).toArray = rdA ext x0 x1 x2 (sgA kd' k' t' n' lo' hi' ev') g o := by rw [hC]; exact fun _ _ _ _ _ _ _ => rfl
 have hRZ : (rdA ext x0 x1 x2 C g o).size = 19 := by rw [hC]; rfl
 have hR1 : (rdA ext x0 x1 x2 C g o)[1]? = some (.func (Fn.func 50) #[] #[.pointer (some ⟨x0, 0, none⟩), .pointer (some ⟨x1, 0, none⟩), .pointer (some ⟨x2, 0, none⟩)]) := rfl
 rw [← hC] at hr HTK
 obtain ⟨W, hW⟩ : ∃ W, W = ((w.alloc (.cells zero15 63)).alloc (.cells zero15 63)).setRow (w.heap.size + 1) C := ⟨_, rfl⟩
 have hbW : Below w.heap.size w W := by rw [hW]; exact below_setRow (((Below.refl _ _).alloc (Nat.le_refl _) _).alloc (by simp) _) (Nat.le_succ _) _
 have HR1 : Hid ((w.alloc (.cells zero15 63)).heap[rb]? = some (.cells (rdA ext x0 x1 x2 C g o) 65 (0, 0))) := Lib.hid (blk_alloc hr _)
 have hs2 : ((w.alloc (.cells zero15 63)).alloc (.cells zero15 63)).heap[w.heap.size + 1]? = some (.cells zero15 63 (0, 0)) := by have := alloc_last (w.alloc (.cells zero15 63)) (.cells zero15 63); simpa using this
 have HS1 := Lib.hid hs2
 have HT : Hid (W.heap[w.heap.size + 1]? = some (.cells C 63 (0, 0))) := Lib.hid (by rw [hW]; exact setRow_selfR hs2 _)
 have HG : Hid (W.heap[w.heap.size]? = some (.cells zero15 63 (0, 0))) := Lib.hid (by rw [hW]; exact blk_setRow (blk_alloc (alloc_last w _) _) (by omega) _)
 have hRW := blk_below hr hbW
 have HRW := Lib.hid hRW
 have cfn : W.cell? ⟨rb, 1, none⟩ = some (.func (Fn.func 50) #[] #[.pointer (some ⟨x0, 0, none⟩), .pointer (some ⟨x1, 0, none⟩), .pointer (some ⟨x2, 0, none⟩)]) := (Lib.cell_of_heap hRW 1).trans hR1
 have hBw : B ≤ w.heap.size := h.es.big
 have hmW := Mv.below hcu hbW
 have HCH : Hid (ChR B w W) := Lib.hid (ChR.below hbW hBw)
 have hcapW := h.cap.mv hmW
 have hjl := hcu.2.1
 rw [ofBys_size] at hjl
 have hbc : ∀ x o n cap, bv = .slice (some ⟨x, o, none⟩) n cap → x ≠ cb := fun x o n cap hv => by have := hcx.nb x o n cap hv; have := hcx.bc; omega
 have HSG := Lib.hid (sgn_any cf e bv l hcx.cfo hcx.by' hcx.len ext x0 x1 x2 cb j W ⟨(h.es.below (hbW.mono hBw)).var, Nat.lt_of_lt_of_le hcx.lo (Nat.le_trans hBw hbW.size), Nat.le_refl _⟩ (h.sl.below hbW) hcapW (by have := hcx.lo; have := hcx.bc; omega) hbc hmW.cur)
 have HH := Lib.hid h
 have HMW := Lib.hid hmW
 have HWE := Lib.hid hW
 have HCX := Lib.hid hcx
 have hrW : rb < W.heap.size := lt_blkB hRW
 have hwW : w.heap.size < W.heap.size := lt_blkB HG.out
 have HCAP := Lib.hid hcapW
 have hkl := h.kl
 unfold zero15 at HWE HR1 HS1
 clear hr hcu hse h hs2 hRW hbW hmW hcapW hcx hbc hC hW hBw hev
 go_enter Tryz.func61, Tryz.ntmps61
 go_upto_region 2 with (first | (refine wpList_load_part rfl 63 _ rfl rb 2 rfl _ (rdA ext x0 x1 x2 C g o) C.toList (0, 0) _ HR1.out hCA Tryz.underlying63 rfl (by rw [Array.length_toList, hCs]; exact sg_size) ?_) | (refine wpList_store_rowTo rfl 63 _ _ rfl rfl (w.heap.size + 1) C rfl rfl _ _ HS1.out (by rw [hCs]; exact sg_size) (by rw [hCs]; rfl) hC1 ?_) | fail)
 rw [← HWE.out]
 clear HR1 HS1 hCA
 go_wp2_with fail
 refine HSG.out.mono ?_
 rintro x w4 ⟨lo', hi', ev', j', rfl, hm4, hse4⟩
 have hR4 : w4.heap[rb]? = some (.cells (rdA ext x0 x1 x2 C g o) 65 (0, 0)) := blk_mv HRW.out hm4 HCX.out.ne
 have HR4 := Lib.hid hR4
 have HT4 : Hid (w4.heap[w.heap.size + 1]? = some (.cells C 63 (0, 0))) := Lib.hid (blk_mv HT.out hm4 (by have := HH.out.lt.2; omega))
 have HG4 : Hid (w4.heap[w.heap.size]? = some (.cells zero15 63 (0, 0))) := Lib.hid (blk_mv HG.out hm4 (by have := HH.out.lt.2; omega))
 have HM4 := Lib.hid hm4
 have HSE4 := Lib.hid hse4
 have hev4 := hse4.one
 obtain ⟨D, hD⟩ : ∃ D, D = sgA (sg cf l ext j).kd j (ofBys (sg cf l ext j).tx) (sg cf l ext j).nd lo' hi' ev' := ⟨_, rfl⟩
 have HDE := Lib.hid hD
 have hDs : D.toList.length = 15 := by rw [hD]; rfl
 have hD1 : D.toList.all (·.oneCell') = true := by have := sgA_one (sg cf l ext j).kd j (ofBys (sg cf l ext j).tx) (sg cf l ext j).nd lo' hi' hev4; rw [← hD, ← Array.all_toList] at this; exact this
 have hDP : (spl (rdA ext x0 x1 x2 C g o).toList 2 D.toList).toArray = rdA ext x0 x1 x2 D g o := by rw [hD]; exact hCP _ _ _ _ _ _ _
 rw [← hD]
 obtain ⟨W5, hW5⟩ : ∃ W5, W5 = w4.setRow rb (rdA ext x0 x1 x2 D g o) := ⟨_, rfl⟩
 have HT5 : Hid (W5.heap[w.heap.size + 1]? = some (.cells C 63 (0, 0))) := Lib.hid (by rw [hW5]; exact blk_setRow HT4.out (by omega) _)
 have HG5 : Hid (W5.heap[w.heap.size]? = some (.cells zero15 63 (0, 0))) := Lib.hid (by rw [hW5]; exact blk_setRow HG4.out (by omega) _)
 have hBB := HCX.out
 have HCH4 : Hid (ChR B W w4) := Lib.hid (ChR.mv HMW.out.cur hm4 hBB.bc)
 have HCH5 : Hid (ChR B w4 W5) := Lib.hid (by rw [hW5]; exact (ChR.refl B w4).setRd hR4 hBB.br _)
 have HCU5 : Hid (Cur W5 cb (ofBys l) j') := Lib.hid (by rw [hW5]; exact cur_setRow hm4.cur hBB.ne _)
 have HRD5 : Hid (W5.heap[rb]? = some (.cells (rdA ext x0 x1 x2 D g o) 65 (0, 0))) := Lib.hid (by rw [hW5]; exact setRow_selfR hR4 _)
 have HWE5 := Lib.hid hW5
 clear hR4 hm4 hse4 hev4 hD hW5 hBB cfn
 go_upto_region 3 with (first | (refine wpList_store_partC rfl 63 _ _ rfl rfl rb 2 D.toList rfl rfl _ (rdA ext x0 x1 x2 C g o) HR4.out (by rw [hDs]; exact sg_size) (by rw [hDs, hRZ]; decide) hD1 (rdA ext x0 x1 x2 D g o) hDP ?_) | fail)
 rw [← HWE5.out]
 clear HR4 HWE5
 go_wp2_with (first | (refine wpList_load_row rfl 63 _ rfl (w.heap.size + 1) rfl _ C (0, 0) _ HT5.out Tryz.underlying63 rfl (by rw [hCs]; exact sg_size) ?_) | (refine wpList_store_rowTo rfl 63 _ _ rfl rfl w.heap.size C rfl rfl _ zero15 HG5.out (by rw [hCs]; exact sg_size) (by rw [hCs]; rfl) hC1 ?_))
 have HCHF : Hid (ChR B w (W5.setRow w.heap.size C)) := Lib.hid (((HCH.out.trans HCH4.out).trans HCH5.out).setNew (Nat.le_refl _) HH.out.es.big _)
 refine bodyPost_ret (results_cell_row rfl _ _ w.heap.size _ C (0, 0) _ rfl (setRow_selfR HG5.out _) Tryz.underlying63 rfl (by rw [hCs]; exact sg_size)) rfl (HTK.out _ _ lo hi ev j rfl (HSE.out.ch HCHF.out) ?_ HCHF.out rfl rfl rfl rfl)
 have hz : rb < w.heap.size ∧ cb < w.heap.size := HH.out.lt
 exact { cx := HCX.out, rd := ⟨lo', hi', ev', j', by rw [← HDE.out]; exact blk_setRow HRD5.out (by omega) _, cur_setRow HCU5.out (by omega) _, SgE.setRow (HSE4.out.ch HCH5.out) HG5.out (by decide) _⟩, cap := cap_ch HH.out.cap HCHF.out, es := HH.out.es.below HCHF.out.bel, sl := sl_ch HH.out.sl HCHF.out.bel HCX.out.nb, kl := hjl }
theorem cells_no (kd : Int) (mn mx gp : Int) (kids : Fo) (kv : Value) : Nd.cells ⟨kd, noP, mn, mx, gp, kids⟩ kv = [.int .i64 kd, .int .u64 0, .int .u64 0, .int .u64 0, .int .u64 0, .int .i64 mn, .int .i64 mx, .int .i64 gp, kv] := by
 unfold Nd.cells
 have z : ∀ i, ((sw noP i : Nat) : Int) = 0 := sw_zero
 dsimp only
 rw [z, z, z, z]
theorem joined_any (kd : Int) (B : Nat) (v : Value) (l : List Nd) (w : World) (h : OwnT B v l w) (hne : l ≠ []) (hlen : l.length ≤ 2097152) :
  Calls Tryz.prog 60 #[.int .i64 kd, v] w fun x w' => ∃ a m c, x = .returned ((joinN kd l).v (.slice a m c)) ∧ (joinN kd l).In w' (fun b => B ≤ b) (.slice a m c) ∧ Below w.heap.size w w' := by
 obtain ⟨oa, oc, rfl⟩ := h.shape
 have HB1 : Hid (Below w.heap.size w (w.alloc (.cells zero9 57))) := Lib.hid ((Below.refl _ _).alloc (Nat.le_refl _) _)
 have HG : Hid ((w.alloc (.cells zero9 57)).heap[w.heap.size]? = some (.cells zero9 57 (0, 0))) := Lib.hid (alloc_last w _)
 have hpos : 0 < l.length := List.length_pos_iff.2 hne
 by_cases h1 : l.length = 1
 ·obtain ⟨x, rfl⟩ : ∃ x, l = [x] := by
   match l, h1 with
   | [x], _ => exact ⟨x, rfl⟩
  obtain ⟨xs, hown, hlay⟩ := h
  obtain ⟨kv, ks, ys, e, k1, k2, k3⟩ := hlay
  have e3 : ys = [] := k3
  subst e3
  rw [List.append_nil] at e
  have e' : xs = x.cells kv := e
  subst e'
  obtain ⟨_, ⟨hn, hz⟩ | ⟨g, cap, cur, hv, hBg, hg, hnc, hcm, hcs, htk⟩⟩ := hown
  ·exact absurd hz (by simp)
  simp only [Value.slice.injEq] at hv
  obtain ⟨rfl, _, rfl⟩ := hv
  have hx : x.In w (fun b => B ≤ b) kv := ⟨ks, k1.mono (fun b hb _ => hb.1), Fo.Lay.mono (fun b hb _ => hb.1) _ _ k2⟩
  obtain ⟨ka, km, kc, rfl⟩ := hx.shape
  have HX := Lib.hid hx
  have hcur : ∀ i u, (x.cells (.slice ka km kc))[i]? = some u → cur[0 + i]? = some u := fun i u hu => by
   rw [← htk] at hu
   rw [List.getElem?_take] at hu
   split at hu
   ·rw [Nat.zero_add]; simpa using hu
   ·cases hu
  have HGC : Hid ((w.alloc (.cells zero9 57)).heap[g]? = some (.cells cur 57 (0, 0))) := Lib.hid (blk_alloc hg _)
  have HJ : Hid (joinN kd [x] = x) := Lib.hid rfl
  rw [HJ.out]
  unfold zero9 at HG HGC HB1
  clear hx hg htk k1 k2 k3 hne hpos
  simp only [List.length_singleton] at *
  go_enter Tryz.func60, Tryz.ntmps60
  go_wp2_with (first | (refine wpList_load_part rfl 57 _ rfl g 0 rfl _ cur (x.cells (.slice ka km kc)) (0, 0) _ HGC.out hcur Tryz.underlying57 rfl re_size ?_) | (refine wpList_store_re rfl _ _ rfl rfl w.heap.size x ka km kc rfl rfl _ HG.out rfl ?_))
  refine bodyPost_ret (results_re1 rfl _ _ w.heap.size x (.slice ka km kc) rfl (setRow_selfR HG.out _)) rfl ⟨ka, km, kc, rfl, HX.out.kept (fun k _ cs hk => ?_), below_setRow HB1.out (Nat.le_refl _) _⟩
  exact (setRow_other _ _ _ _ (by have := lt_blkB hk; omega)).trans (HB1.out.block k (lt_blkB hk))
 ·have HJ : Hid (joinN kd l = ⟨kd, noP, 0, 0, 0, fo l⟩) := Lib.hid (by
   unfold joinN
   match l, h1, hpos with
   | x :: y :: r, _, _ => rfl)
  obtain ⟨ks, k1, k2⟩ := h.kids
  have HIN : Hid ((Nd.mk kd noP 0 0 0 (fo l)).In w (fun b => B ≤ b) (.slice oa l.length oc)) := Lib.hid ⟨ks, by rw [fo_len]; exact k1, k2⟩
  rw [HJ.out]
  have hq : ((l.length : Int) == 1) = false := by simp; omega
  have hq2 : ¬ (l.length : Int) = 1 := by omega
  have HCN : Hid ((Nd.mk kd noP 0 0 0 (fo l)).v (.slice oa l.length oc) = .agg #[.int .i64 kd, .int .u64 0, .int .u64 0, .int .u64 0, .int .u64 0, .int .i64 0, .int .i64 0, .int .i64 0, .slice oa l.length oc]) := Lib.hid (by unfold Nd.v; rw [cells_no])
  unfold zero9 at HG HB1
  clear h k1 k2 h1 hne
  generalize l.length = n at *
  go_enter Tryz.func60, Tryz.ntmps60
  go_wp2_with (first | (refine wpList_buildTo rfl 57 _ rfl _ rfl _ (jn_built kd oa n oc) ?_) | (refine wpList_store_re rfl _ _ rfl rfl w.heap.size (Nd.mk kd noP 0 0 0 (fo l)) oa n oc rfl HCN.out.symm _ HG.out rfl ?_))
  refine bodyPost_ret (results_re1 rfl _ _ w.heap.size (Nd.mk kd noP 0 0 0 (fo l)) (.slice oa n oc) rfl (setRow_selfR HG.out _)) rfl ⟨oa, n, oc, rfl, HIN.out.kept (fun k _ cs hk => ?_), below_setRow HB1.out (Nat.le_refl _) _⟩
  exact (setRow_other _ _ _ _ (by have := lt_blkB hk; omega)).trans (HB1.out.block k (lt_blkB hk))
theorem endsBranch_any (kd : Nat) (k : Nat) (t : ByteArray) (n : Nd) (lo hi : Int) (ev : Value) (w : World) :
  Calls Tryz.prog 78 #[.agg (sgA kd k t n lo hi ev)] w fun x w' => x = .returned (.bool (endsB kd)) ∧ Below w.heap.size w w' := by
 have HB : Hid (Below w.heap.size w (w.alloc (.cells (sgA kd k t n lo hi ev) 63))) := Lib.hid ((Below.refl _ _).alloc (Nat.le_refl _) _)
 unfold sgA at *
 by_cases h3 : kd = 3
 ·subst h3
  go_enter Tryz.func78, Tryz.ntmps78
  go_wp2
  go_ret
  exact ⟨rfl, HB.out⟩
 by_cases h4 : kd = 4
 ·subst h4
  go_enter Tryz.func78, Tryz.ntmps78
  go_wp2
  go_ret
  exact ⟨rfl, HB.out⟩
 by_cases h5 : kd = 5
 ·subst h5
  go_enter Tryz.func78, Tryz.ntmps78
  go_wp2
  go_ret
  exact ⟨rfl, HB.out⟩
 have e3 : ((kd : Int) == 3) = false := by simp; omega
 have e4 : ((kd : Int) == 4) = false := by simp; omega
 have e5 : ((kd : Int) == 5) = false := by simp; omega
 have HE : Hid (endsB kd = false) := Lib.hid (by simp [endsB, h3, h4, h5])
 rw [HE.out]
 clear h3 h4 h5
 go_enter Tryz.func78, Tryz.ntmps78
 go_wp2
 go_ret
 exact ⟨rfl, HB.out⟩
theorem endsPiece_any (B : Nat) (v : Value) (l : List Nd) (w : World) (h : OwnT B v l w) (hlen : l.length ≤ 1048576) :
  Calls Tryz.prog 95 #[v] w fun x w' => x = .returned (.bool (endsP l)) ∧ w' = w := by
 obtain ⟨oa, oc, rfl⟩ := h.shape
 by_cases h0 : l = []
 ·subst h0
  go_enter Tryz.func95, Tryz.ntmps95
  go_wp2
  go_ret
  exact ⟨rfl, rfl⟩
 ·obtain ⟨r, x, rfl⟩ : ∃ r x, l = r ++ [x] := ⟨l.dropLast, l.getLast h0, (List.dropLast_concat_getLast h0).symm⟩
  have HE : Hid (endsP (r ++ [x]) = (decide (x.kd ≠ 2) && decide (x.kd ≠ 3))) := Lib.hid (by unfold endsP; simp)
  rw [HE.out]
  obtain ⟨xs, hown, hlay⟩ := h
  obtain ⟨ys, kv, rfl, hy, hx⟩ := lay_last hlay
  obtain ⟨_, ⟨hn, hz⟩ | ⟨g, cap, cur, hv, hBg, hg, hnc, hcm, hcs, htk⟩⟩ := hown
  ·exact absurd hz (by simp)
  simp only [Value.slice.injEq] at hv
  obtain ⟨rfl, _, rfl⟩ := hv
  have hyl := Fo.Lay.len _ _ hy
  rw [fo_len] at hyl
  have hc : w.cell? ⟨g, r.length * 9, none⟩ = some (.int .i64 x.kd) := by
   rw [Lib.cell_of_heap hg]
   have h1 : (ys ++ x.cells kv)[r.length * 9]? = some (.int .i64 x.kd) := by rw [List.getElem?_append_right (by omega), hyl, Nat.sub_self]; rfl
   rw [← htk, List.getElem?_take] at h1
   split at h1
   ·simpa using h1
   ·cases h1
  obtain ⟨n, hn⟩ : ∃ n, n = r.length := ⟨_, rfl⟩
  have hl1 : (r ++ [x]).length = n + 1 := by rw [hn]; simp
  rw [hl1] at hlen hnc ⊢
  rw [← hn] at hc
  have hq : ((((n + 1 : Nat) : Int)) == 0) = false := by simp; omega
  generalize x.kd = kd at *
  clear hlay hx hy hyl htk hg hcs hn hl1 h0 HE
  by_cases h2 : kd = 2
  ·subst h2
   go_enter Tryz.func95, Tryz.ntmps95
   go_wp2
   go_ret
   exact ⟨rfl, rfl⟩
  by_cases h3 : kd = 3
  ·subst h3
   go_enter Tryz.func95, Tryz.ntmps95
   go_wp2
   go_ret
   exact ⟨rfl, rfl⟩
  have e2 : (kd != 2) = true := bne_iff_ne.2 h2
  have e3 : (kd != 3) = true := bne_iff_ne.2 h3
  have HD : Hid ((decide (kd ≠ 2) && decide (kd ≠ 3)) = true) := Lib.hid (by simp [h2, h3])
  rw [HD.out]
  clear h2 h3
  go_enter Tryz.func95, Tryz.ntmps95
  go_wp2
  go_ret
  exact ⟨rfl, rfl⟩
theorem RdS.cells {cf : ByteArray → (Nat → Bool) × Bool} {l : List Int} {ext : Bool} {B : Nat} {e : Nat → Addr} {bv : Value} {x0 x1 x2 cb rb k g o : Nat} {w : World} (h : RdS cf l ext B e bv x0 x1 x2 cb rb k g o w) :
  w.cell? ⟨rb, 0, none⟩ = some (.bool ext) ∧ w.cell? ⟨rb, 2, none⟩ = some (.int .i64 (sg cf l ext k).kd) ∧ w.cell? ⟨rb, 3, none⟩ = some (.int .i64 k) ∧ w.cell? ⟨rb, 17, none⟩ = some (.int .i64 g) ∧ w.cell? ⟨rb, 18, none⟩ = some (.int .i64 o) ∧ w.frozen? ⟨rb, 17, none⟩ = false ∧ w.frozen? ⟨rb, 18, none⟩ = false := by
 obtain ⟨lo, hi, ev, j, h1, _, _⟩ := h.rd
 exact ⟨(Lib.cell_of_heap h1 0).trans rfl, (Lib.cell_of_heap h1 2).trans rfl, (Lib.cell_of_heap h1 3).trans rfl, (Lib.cell_of_heap h1 17).trans rfl, (Lib.cell_of_heap h1 18).trans rfl, Lib.frozen_of_heap h1 17, Lib.frozen_of_heap h1 18⟩
set_option maxHeartbeats 4000000 in
theorem nothing_any (cf : ByteArray → (Nat → Bool) × Bool) (l : List Int) (ext : Bool) (B : Nat) (e : Nat → Addr) (bv : Value) (x0 x1 x2 cb rb k g o : Nat) (w : World) (h : RdS cf l ext B e bv x0 x1 x2 cb rb k g o w) :
  Calls Tryz.prog 82 #[.pointer (some ⟨rb, 0, none⟩)] w fun x w' => ∃ b, x = .returned (.iface 86 (.pointer (some ⟨b, 0, none⟩))) ∧ ErrQ w' e ext (if ext = true ∧ (sg cf l ext k).kd = 3 ∧ o = 0 then 9 else 3) k (.iface 86 (.pointer (some ⟨b, 0, none⟩))) ∧ Below w.heap.size w w' := by
 obtain ⟨c0, c2, c3, c17, c18, f17, f18⟩ := h.cells
 have hrl := h.lt.1
 have HE : ∀ c : Nat, (c = 2 ∨ c = 3 ∨ c = 5 ∨ c = 7 ∨ c = 9 ∨ c = 10) → Hid (Calls Tryz.prog 16 #[.int .i64 c, .int .i64 k] w fun x w' => ∃ b, x = .returned (.iface 86 (.pointer (some ⟨b, 0, none⟩))) ∧ ErrQ w' e ext c k (.iface 86 (.pointer (some ⟨b, 0, none⟩))) ∧ Below w.heap.size w w') := fun c hc => Lib.hid (refz_err e ext B w h.es c k hc)
 have HE3 := HE 3 (by simp)
 have HE9 := HE 9 (by simp)
 generalize (sg cf l ext k).kd = kd at *
 clear h HE
 cases ext with
 | false =>
  rw [if_neg (fun h => by cases h.1)]
  go_enter Tryz.func82, Tryz.ntmps82
  go_wp2_with fail
  refine HE3.out.mono ?_
  rintro x w1 ⟨b, rfl, h1, h2⟩
  have H1 := Lib.hid h1
  have H2 := Lib.hid h2
  clear h1 h2
  go_wp2
  go_ret
  exact ⟨b, rfl, H1.out, H2.out⟩
 | true =>
  by_cases h3 : kd = 3
  ·subst h3
   by_cases ho : o = 0
   ·subst ho
    rw [if_pos ⟨rfl, rfl, rfl⟩]
    go_enter Tryz.func82, Tryz.ntmps82
    go_wp2_with fail
    refine HE9.out.mono ?_
    rintro x w1 ⟨b, rfl, h1, h2⟩
    have H1 := Lib.hid h1
    have H2 := Lib.hid h2
    clear h1 h2
    go_wp2
    go_ret
    exact ⟨b, rfl, H1.out, H2.out⟩
   ·rw [if_neg (fun h => ho h.2.2)]
    have e0 : ((o : Int) == 0) = false := by simp; omega
    clear ho
    go_enter Tryz.func82, Tryz.ntmps82
    go_wp2_with fail
    refine HE3.out.mono ?_
    rintro x w1 ⟨b, rfl, h1, h2⟩
    have H1 := Lib.hid h1
    have H2 := Lib.hid h2
    clear h1 h2
    go_wp2
    go_ret
    exact ⟨b, rfl, H1.out, H2.out⟩
  ·rw [if_neg (fun h => h3 h.2.1)]
   have e3 : ((kd : Int) == 3) = false := by simp; omega
   clear h3
   go_enter Tryz.func82, Tryz.ntmps82
   go_wp2_with fail
   refine HE3.out.mono ?_
   rintro x w1 ⟨b, rfl, h1, h2⟩
   have H1 := Lib.hid h1
   have H2 := Lib.hid h2
   clear h1 h2
   go_wp2
   go_ret
   exact ⟨b, rfl, H1.out, H2.out⟩
theorem isByte_any (cf : ByteArray → (Nat → Bool) × Bool) (l : List Int) (ext : Bool) (B B2 : Nat) (e : Nat → Addr) (bv : Value) (x0 x1 x2 cb rb k j g o : Nat) (w : World) (h : RdS cf l ext B e bv x0 x1 x2 cb rb j g o w) (v : Value) (items : List Nd) (ho : OwnT B2 v items w) (hlen : items.length ≤ 1048576) (lo hi : Int) (ev : Value) :
  Calls Tryz.prog 79 #[.pointer (some ⟨rb, 0, none⟩), .agg (sgA (sg cf l ext k).kd k (ofBys (sg cf l ext k).tx) (sg cf l ext k).nd lo hi ev), v] w fun x w' => x = .returned (.bool (isByt ext (sg cf l ext k) (sg cf l ext j).kd items)) ∧ Below w.heap.size w w' := by
 obtain ⟨oa, oc, rfl⟩ := ho.shape
 have hby := sgT_byt h.cx.by' k
 have htx := sg_tx cf l ext k
 have hrl := h.lt.1
 have hbx : Below w.heap.size w (w.alloc (.cells (sgA (sg cf l ext k).kd k (ofBys (sg cf l ext k).tx) (sg cf l ext k).nd lo hi ev) 63)) := (Below.refl _ _).alloc (Nat.le_refl _) _
 have h' := h.next hbx
 obtain ⟨lo', hi', ev', j', hr', _, _⟩ := h'.rd
 have HR' := Lib.hid hr'
 have c0 := h.cells.1
 have HEB : ∀ X, Hid (Calls Tryz.prog 78 #[.agg (sgA (sg cf l ext j).kd j (ofBys (sg cf l ext j).tx) (sg cf l ext j).nd lo' hi' ev')] X fun x w' => x = .returned (.bool (endsB (sg cf l ext j).kd)) ∧ Below X.heap.size X w') := fun X => Lib.hid (endsBranch_any _ j _ _ lo' hi' ev' X)
 have HEBH := Lib.hid HEB
 have HEP := Lib.hid (endsPiece_any B2 _ items _ (ho.below hbx) hlen)
 have HBX := Lib.hid hbx
 have HC15 : ∀ i u, (sgA (sg cf l ext j).kd j (ofBys (sg cf l ext j).tx) (sg cf l ext j).nd lo' hi' ev').toList[i]? = some u → (rdA ext x0 x1 x2 (sgA (sg cf l ext j).kd j (ofBys (sg cf l ext j).tx) (sg cf l ext j).nd lo' hi' ev') g o)[2 + i]? = some u := rdA_at _ _ _ _ _ _ _ _ _ _ _ _ _
 have HCH := Lib.hid HC15
 have HSD : Hid ((sgA (sg cf l ext j).kd j (ofBys (sg cf l ext j).tx) (sg cf l ext j).nd lo' hi' ev').toList.length = 15) := Lib.hid rfl
 have HIT : Hid (isByt ext (sg cf l ext k) (sg cf l ext j).kd items = if ext then false else if sgT l k = [94] then !items.isEmpty else if sgT l k = [36] then !endsB (sg cf l ext j).kd else if sgT l k = [42] then !endsP items else false) := Lib.hid (by unfold isByt; rw [htx])
 rw [HIT.out]
 rw [htx] at HBX HEP HR' ⊢
 generalize (sg cf l ext k).nd = nd at *
 generalize (sg cf l ext k).kd = kd at *
 generalize hjj : sgA (sg cf l ext j).kd j (ofBys (sg cf l ext j).tx) (sg cf l ext j).nd lo' hi' ev' = D at *
 generalize (sg cf l ext j).kd = kj at *
 have hemp : items.isEmpty = decide (items.length = 0) := by cases items <;> simp
 rw [hemp]
 have HNN : Hid (endsP items = endsP items) := Lib.hid rfl
 generalize endsP items = ep at *
 generalize items.length = n at *
 clear h h' hr' ho hbx htx HEB HC15 hjj hemp HIT HNN
 cases ext with
 | true =>
  go_enter Tryz.func79, Tryz.ntmps79
  go_wp2_with fail
  go_ret
  exact ⟨rfl, (Below.refl _ _).alloc (Nat.le_refl _) _⟩
 | false =>
  rw [if_neg (by decide)]
  unfold sgA at HBX HEP HR' ⊢
  by_cases h94 : sgT l k = [94]
  ·rw [if_pos h94]
   have f1 : ((ofBys (sgT l k)).toList == [94]) = true := by rw [tlR hby]; exact decide_eq_true h94
   generalize ofBys (sgT l k) = tt at *
   by_cases hn : n = 0
   ·subst hn
    go_enter Tryz.func79, Tryz.ntmps79
    go_wp2
    go_ret
    exact ⟨rfl, (Below.refl _ _).alloc (Nat.le_refl _) _⟩
   ·have hni : 0 < n := by omega
    have hnI : (0 : Int) < (n : Int) := by omega
    have HD : Hid ((!decide (n = 0)) = true) := Lib.hid (by simp [hn])
    rw [HD.out]
    clear hn
    go_enter Tryz.func79, Tryz.ntmps79
    go_wp2
    go_ret
    exact ⟨rfl, (Below.refl _ _).alloc (Nat.le_refl _) _⟩
  rw [if_neg h94]
  have f1 : ((ofBys (sgT l k)).toList == [94]) = false := by rw [tlR hby]; exact decide_eq_false h94
  by_cases h36 : sgT l k = [36]
  ·rw [if_pos h36]
   have f2 : ((ofBys (sgT l k)).toList == [36]) = true := by rw [tlR hby]; exact decide_eq_true h36
   generalize ofBys (sgT l k) = tt at *
   go_enter Tryz.func79, Tryz.ntmps79
   go_wp2_with (first | (refine wpList_load_part rfl 63 _ rfl rb 2 rfl _ (rdA false x0 x1 x2 D g o) D.toList (0, 0) _ HR'.out HCH.out Tryz.underlying63 rfl (by rw [HSD.out]; exact sg_size) ?_) | fail)
   refine (HEBH.out _).out.mono ?_
   rintro x w1 ⟨rfl, hb1⟩
   have HB1 := Lib.hid (below_thn HBX.out (Nat.le_refl _) hb1)
   clear hb1
   go_wp2
   go_ret
   exact ⟨rfl, HB1.out⟩
  rw [if_neg h36]
  have f2 : ((ofBys (sgT l k)).toList == [36]) = false := by rw [tlR hby]; exact decide_eq_false h36
  by_cases h42 : sgT l k = [42]
  ·rw [if_pos h42]
   have f3 : ((ofBys (sgT l k)).toList == [42]) = true := by rw [tlR hby]; exact decide_eq_true h42
   generalize ofBys (sgT l k) = tt at *
   go_enter Tryz.func79, Tryz.ntmps79
   go_wp2_with fail
   refine HEP.out.mono ?_
   rintro x w1 ⟨rfl, rfl⟩
   go_wp2
   go_ret
   exact ⟨rfl, HBX.out⟩
  rw [if_neg h42]
  have f3 : ((ofBys (sgT l k)).toList == [42]) = false := by rw [tlR hby]; exact decide_eq_false h42
  generalize ofBys (sgT l k) = tt at *
  go_enter Tryz.func79, Tryz.ntmps79
  go_wp2
  go_ret
  exact ⟨rfl, (Below.refl _ _).alloc (Nat.le_refl _) _⟩
theorem repL_snoc (r : List Nd) (x : Nd) (m n : Int) : repL (r ++ [x]) m n = r ++ [repN m n x] := by unfold repL; simp
theorem endsP_ne {l : List Nd} (h : endsP l = true) : l ≠ [] := fun e => by rw [e] at h; cases h
theorem rp_built (lo hi : Int) (b : Nat) : Tryz.prog.built 57 [(0, .int .i64 6), (2, .int .i64 lo), (3, .int .i64 hi), (5, .slice (some ⟨b, 0, none⟩) 1 1)] = some #[.int .i64 6, .int .u64 0, .int .u64 0, .int .u64 0, .int .u64 0, .int .i64 lo, .int .i64 hi, .int .i64 0, .slice (some ⟨b, 0, none⟩) 1 1] := by kernel_rfl
theorem repN_v (lo hi : Int) (x : Nd) (b : Nat) : (repN lo hi x).v (.slice (some ⟨b, 0, none⟩) 1 1) = .agg #[.int .i64 6, .int .u64 0, .int .u64 0, .int .u64 0, .int .u64 0, .int .i64 lo, .int .i64 hi, .int .i64 0, .slice (some ⟨b, 0, none⟩) 1 1] := by unfold Nd.v repN; rw [cells_no]
theorem grown_setRow (X : World) (g : Nat) (c : Array Value) : X.grownBy (X.setRow g c) (some g) :=
 ⟨rfl, rfl, rfl, by simp, fun k _ hne => setRow_other _ _ _ _ (fun e => hne (by rw [e]))⟩
structure Rp1 (W : World) (g n : Nat) (cur : Array Value) (x : Nd) (kv : Value) (lo hi : Int) (L10 L11 L13 : Bool) (u10 u11 : Value) (X : World) : Prop where
 gr : W.grownBy X (some g)
 row : L13 = false → X.heap[g]? = some (.cells cur 57 (0, 0))
 lit : L10 = true → ∃ b, u10 = .slice (some ⟨b, 0, none⟩) 1 1 ∧ W.heap.size ≤ b ∧ X.heap[b]? = some (.cells (x.cells kv).toArray 57 (0, 0))
 val : L11 = true → L10 = true ∧ ∀ b, u10 = .slice (some ⟨b, 0, none⟩) 1 1 → u11 = (repN lo hi x).v (.slice (some ⟨b, 0, none⟩) 1 1)
 done : L13 = true → L10 = true → ∀ b, u10 = .slice (some ⟨b, 0, none⟩) 1 1 → X.heap[g]? = some (.cells (spl cur.toList (n * 9) ((repN lo hi x).cells (.slice (some ⟨b, 0, none⟩) 1 1))).toArray 57 (0, 0))
theorem take_spl (cur : List Value) (n : Nat) (ys zs vs : List Value) (hy : ys.length = n * 9) (hv : vs.length = 9) (h : cur.take ((n + 1) * 9) = ys ++ zs) : (spl cur (n * 9) vs).take ((n + 1) * 9) = ys ++ vs := by
 have h1 : cur.take (n * 9) = ys := by
  have := congrArg (List.take (n * 9)) h
  rw [List.take_take, Nat.min_eq_left (by omega), List.take_left' hy] at this
  exact this
 unfold spl
 rw [h1, List.take_append_of_le_length (by rw [List.length_append, hy, hv]; omega), List.take_of_length_le (by rw [List.length_append, hy, hv]; omega)]
theorem rep_no (e : Nat → Addr) (ext : Bool) (B B2 : Nat) (v : Value) (items : List Nd) (kd : Int) (k : Nat) (t : ByteArray) (nd : Nd) (lo hi : Int) (ev : Value) (w : World) (he : Es w B e) (ho : OwnT B2 v items w) (hlen : items.length ≤ 1048576) (hp : endsP items = false) :
  Calls Tryz.prog 80 #[v, .agg (sgA kd k t nd lo hi ev)] w fun x w' => ∃ b, x = .returned (.iface 86 (.pointer (some ⟨b, 0, none⟩))) ∧ ErrQ w' e ext 3 k (.iface 86 (.pointer (some ⟨b, 0, none⟩))) ∧ Below w.heap.size w w' := by
 have hbx : Below w.heap.size w (w.alloc (.cells (sgA kd k t nd lo hi ev) 63)) := (Below.refl _ _).alloc (Nat.le_refl _) _
 have HEP := Lib.hid (endsPiece_any B2 v items _ (ho.below hbx) hlen)
 rw [hp] at HEP
 have HRF := Lib.hid (refz_err e ext B _ (he.below (hbx.mono he.big)) 3 (k : Nat) (by simp))
 have HBX := Lib.hid hbx
 obtain ⟨oa, oc, rfl⟩ := ho.shape
 clear hbx ho he hp
 unfold sgA at *
 go_enter Tryz.func80, Tryz.ntmps80
 go_wp2_with fail
 refine HEP.out.mono ?_
 rintro x w1 ⟨rfl, rfl⟩
 go_wp2_with fail
 refine HRF.out.mono ?_
 rintro x w2 ⟨b, rfl, h1, h2⟩
 have H1 := Lib.hid h1
 have H2 := Lib.hid (below_thn HBX.out (Nat.le_refl _) h2)
 clear h1 h2
 go_wp2
 go_ret
 exact ⟨b, rfl, H1.out, H2.out⟩
theorem rep_err (B2 : Nat) (v : Value) (items : List Nd) (kd : Int) (k : Nat) (t : ByteArray) (nd : Nd) (lo hi : Int) (U b : Nat) (w : World) (ho : OwnT B2 v items w) (hlen : items.length ≤ 1048576) (hp : endsP items = true) :
  Calls Tryz.prog 80 #[v, .agg (sgA kd k t nd lo hi (.iface U (.pointer (some ⟨b, 0, none⟩))))] w fun x w' => x = .returned (.iface U (.pointer (some ⟨b, 0, none⟩))) ∧ Below w.heap.size w w' := by
 have hbx : Below w.heap.size w (w.alloc (.cells (sgA kd k t nd lo hi (.iface U (.pointer (some ⟨b, 0, none⟩)))) 63)) := (Below.refl _ _).alloc (Nat.le_refl _) _
 have HEP := Lib.hid (endsPiece_any B2 v items _ (ho.below hbx) hlen)
 rw [hp] at HEP
 have HBX := Lib.hid hbx
 obtain ⟨oa, oc, rfl⟩ := ho.shape
 clear hbx ho hp
 unfold sgA at *
 go_enter Tryz.func80, Tryz.ntmps80
 go_wp2_with fail
 refine HEP.out.mono ?_
 rintro x w1 ⟨rfl, rfl⟩
 go_wp2
 go_ret
 exact ⟨rfl, HBX.out⟩
set_option maxHeartbeats 16000000 in
theorem rep_yes (B2 : Nat) (v : Value) (items : List Nd) (kd : Int) (k : Nat) (t : ByteArray) (nd : Nd) (lo hi : Int) (w : World) (ho : OwnT B2 v items w) (hlen : items.length ≤ 1048576) (hp : endsP items = true) :
  Calls Tryz.prog 80 #[v, .agg (sgA kd k t nd lo hi .nilIface)] w fun x w' => x = .returned .nilIface ∧ OwnT B2 v (repL items lo hi) w' ∧ w.grownBy w' v.ownBlock := by
 obtain ⟨r, x, rfl⟩ : ∃ r x, items = r ++ [x] := ⟨items.dropLast, items.getLast (endsP_ne hp), (List.dropLast_concat_getLast (endsP_ne hp)).symm⟩
 obtain ⟨W, hW⟩ : ∃ W, W = w.alloc (.cells (sgA kd k t nd lo hi .nilIface) 63) := ⟨_, rfl⟩
 have hbx : Below w.heap.size w W := by rw [hW]; exact (Below.refl _ _).alloc (Nat.le_refl _) _
 have hoW := ho.below hbx
 have HEP := Lib.hid (endsPiece_any B2 v _ W hoW hlen)
 rw [hp] at HEP
 obtain ⟨xs, hown, hlay⟩ := hoW
 obtain ⟨ys, kv, rfl, hy, hx⟩ := lay_last hlay
 obtain ⟨hxl, ⟨hn, hz⟩ | ⟨g, cap, cur, hv, hBg, hg, hnc, hcm, hcs, htk⟩⟩ := hown
 ·exact absurd hz (by simp)
 obtain ⟨ka, km, kc, rfl⟩ := hx.shape
 have hyl := Fo.Lay.len _ _ hy
 rw [fo_len] at hyl
 obtain ⟨n, hn⟩ : ∃ n, n = r.length := ⟨_, rfl⟩
 have hl1 : (r ++ [x]).length = n + 1 := by rw [hn]; simp
 rw [hl1] at hv hlen hnc htk
 rw [← hn] at hyl
 subst hv
 have hcell : ∀ i u, (x.cells (.slice ka km kc))[i]? = some u → cur[n * 9 + i]? = some u := fun i u hu => by
  have h1 : (ys ++ x.cells (.slice ka km kc))[n * 9 + i]? = some u := by rw [List.getElem?_append_right (by omega), hyl, Nat.add_sub_cancel_left]; exact hu
  rw [← htk, List.getElem?_take] at h1
  split at h1
  ·simpa using h1
  ·cases h1
 have hcsz : n * 9 + 9 ≤ cur.size := by rw [hcs]; omega
 have hgw : g < w.heap.size := by
  obtain ⟨zs, ho1, _⟩ := ho
  exact (own_ltB ho1 (b := g) rfl).2
 have HGR : Hid (w.grownBy W (some g)) := Lib.hid (by rw [hW]; exact World.grownBy_alloc _ _ _)
 have HBX : Hid (W.heap[w.heap.size]? = some (.cells (sgA kd k t nd lo hi .nilIface) 63 (0, 0))) := Lib.hid (by rw [hW]; exact alloc_last w _)
 have hwz : W.heap.size = w.heap.size + 1 := by rw [hW]; simp
 have HG := Lib.hid hg
 have HWE := Lib.hid hW
 have HCELL := Lib.hid hcell
 have HFIN : Hid (∀ (X : World) (b : Nat), W.grownBy X (some g) → W.heap.size ≤ b → X.heap[b]? = some (.cells (x.cells (.slice ka km kc)).toArray 57 (0, 0)) → X.heap[g]? = some (.cells (spl cur.toList (n * 9) ((repN lo hi x).cells (.slice (some ⟨b, 0, none⟩) 1 1))).toArray 57 (0, 0)) → OwnT B2 (.slice (some ⟨g, 0, none⟩) (n + 1) cap) (repL (r ++ [x]) lo hi) X) := Lib.hid (fun X b hgr hb hlit hrow => by
  rw [repL_snoc]
  have hbg : b ≠ g := by omega
  have hsame : SameR W X (fun b => B2 ≤ b ∧ (Value.slice (some ⟨g, 0, none⟩) (n + 1) cap).ownBlock ≠ some b) := fun i hi cs hc => hgr.block i (lt_blkB hc) (fun h => hi.2 h.symm)
  have hS : B2 ≤ b ∧ (Value.slice (some ⟨g, 0, none⟩) (n + 1) cap).ownBlock ≠ some b := ⟨by omega, fun h => hbg (Option.some.inj h).symm⟩
  have hown' := lit_row hlit 0 (Nat.zero_le _)
  refine ⟨ys ++ (repN lo hi x).cells (.slice (some ⟨b, 0, none⟩) 1 1), ⟨?_, Or.inr ⟨g, cap, _, ?_, hBg, hrow, ?_, hcm, ?_, ?_⟩⟩, ?_⟩
  ·rw [List.length_append, hyl, Nd.cells_len, List.length_append, List.length_singleton, ← hn]; omega
  ·rw [List.length_append, List.length_singleton, ← hn]
  ·rw [List.length_append, List.length_singleton, ← hn]; exact hnc
  ·rw [List.size_toArray, spl_len _ _ _ (by rw [Nd.cells_len, Array.length_toList]; exact hcsz), Array.length_toList, hcs]
  ·rw [List.length_append, List.length_singleton, ← hn]
   exact take_spl _ n ys (x.cells (.slice ka km kc)) _ hyl rfl htk
  ·refine lay_snoc (Fo.Lay.kept hsame _ _ hy) ⟨_, ⟨hown', fun b' hb' => ?_⟩, lay_one (hx.kept hsame)⟩
   have : b' = b := (Option.some.inj hb').symm
   rw [this]
   exact hS)
 clear hbx ho hlay hx hy hyl htk hg hcs hl1 hp hW hcell hn hxl hcm
 unfold sgA at HWE HBX
 unfold sgA
 go_enter Tryz.func80, Tryz.ntmps80
 go_wp2_with fail
 rw [← HWE.out]
 refine HEP.out.mono ?_
 rintro y w1 ⟨rfl, rfl⟩
 have cb14 : w1.cell? ⟨w.heap.size, 14, none⟩ = some .nilIface := (Lib.cell_of_heap HBX.out 14).trans rfl
 go_wp2_with fail
 clear cb14
 refine Reg.wp_region_sto (fun L u X => Rp1 w1 g n cur x (.slice ka km kc) lo hi (L 10) (L 11) (L 13) (u 10) (u 11) X) (fun j => ([some (.slice (some ⟨g, 0, none⟩) (n + 1) cap), some (.int .i64 (n : Nat)), some (.pointer (some ⟨w.heap.size, 12, none⟩)), some (.int .i64 lo), some (.pointer (some ⟨w.heap.size, 13, none⟩)), some (.int .i64 hi), some (.slice (some ⟨g, 0, none⟩) (n + 1) cap), some (.int .i64 (n : Nat)), some (.pointer (some ⟨g, n * 9, none⟩)), some (.agg (x.cells (.slice ka km kc)).toArray), none, none, some (.pointer (some ⟨g, n * 9, none⟩)), none] : List (Option Value)).getD j none) (by kernel_rfl) (by kernel_rfl) (by kernel_rfl) (by kernel_rfl) ?rs0 ?rsE ?rsZ
 case rs0 => exact ⟨⟨rfl, rfl, rfl, Nat.le_refl _, fun _ _ _ => rfl⟩, fun _ => HG.out, fun h => (by cases h), fun h => (by cases h), fun h => (by cases h)⟩
 case rsE =>
  refine Reg.EachG.plain rfl (fun L u T X hL hz hS hk K hK => ?_) ?_
  ·skip
   have g0 := hk.old 0 (by kernel_rfl) rfl
   have hK := hK _ X ⟨hS.gr, hS.row, hS.lit, hS.val, hS.done⟩ (fun _ hx => Option.some.inj hx)
   clear hk hz hL
   go_simp
   exact hK
  refine Reg.EachG.plain rfl (fun L u T X hL hz hS hk K hK => ?_) ?_
  ·skip
   have g5 := hk.old 5 (by kernel_rfl) rfl
   have hK := hK _ X ⟨hS.gr, hS.row, hS.lit, hS.val, hS.done⟩ (fun _ hx => Option.some.inj hx)
   clear hk hz hL
   go_simp
   exact hK
  refine Reg.EachG.plain rfl (fun L u T X hL hz hS hk K hK => ?_) ?_
  ·skip
   have g3 := hk.old 3 (by kernel_rfl) rfl
   have hK := hK _ X ⟨hS.gr, hS.row, hS.lit, hS.val, hS.done⟩ (fun _ hx => Option.some.inj hx)
   clear hk hz hL
   go_simp
   exact hK
  refine Reg.EachG.plain rfl (fun L u T X hL hz hS hk K hK => ?_) ?_
  ·skip
   have g24 := hk.val 2 24 (by kernel_rfl) (by kernel_rfl) rfl
   have hbx := (hS.gr.block w.heap.size (by omega) (fun h => by have := Option.some.inj h; omega)).trans HBX.out
   have cb := (Lib.cell_of_heap hbx 12).trans (show _ = some (Value.int .i64 lo) from rfl)
   clear hbx
   have hK := hK _ X ⟨hS.gr, hS.row, hS.lit, hS.val, hS.done⟩ (fun _ hx => Option.some.inj hx)
   clear hk hz hL
   go_simp
   exact hK
  refine Reg.EachG.plain rfl (fun L u T X hL hz hS hk K hK => ?_) ?_
  ·skip
   have g3 := hk.old 3 (by kernel_rfl) rfl
   have hK := hK _ X ⟨hS.gr, hS.row, hS.lit, hS.val, hS.done⟩ (fun _ hx => Option.some.inj hx)
   clear hk hz hL
   go_simp
   exact hK
  refine Reg.EachG.plain rfl (fun L u T X hL hz hS hk K hK => ?_) ?_
  ·skip
   have g26 := hk.val 4 26 (by kernel_rfl) (by kernel_rfl) rfl
   have hbx := (hS.gr.block w.heap.size (by omega) (fun h => by have := Option.some.inj h; omega)).trans HBX.out
   have cb := (Lib.cell_of_heap hbx 13).trans (show _ = some (Value.int .i64 hi) from rfl)
   clear hbx
   have hK := hK _ X ⟨hS.gr, hS.row, hS.lit, hS.val, hS.done⟩ (fun _ hx => Option.some.inj hx)
   clear hk hz hL
   go_simp
   exact hK
  refine Reg.EachG.plain rfl (fun L u T X hL hz hS hk K hK => ?_) ?_
  ·skip
   have g0 := hk.old 0 (by kernel_rfl) rfl
   have hK := hK _ X ⟨hS.gr, hS.row, hS.lit, hS.val, hS.done⟩ (fun _ hx => Option.some.inj hx)
   clear hk hz hL
   go_simp
   exact hK
  refine Reg.EachG.plain rfl (fun L u T X hL hz hS hk K hK => ?_) ?_
  ·skip
   have g5 := hk.old 5 (by kernel_rfl) rfl
   have hK := hK _ X ⟨hS.gr, hS.row, hS.lit, hS.val, hS.done⟩ (fun _ hx => Option.some.inj hx)
   clear hk hz hL
   go_simp
   exact hK
  refine Reg.EachG.plain rfl (fun L u T X hL hz hS hk K hK => ?_) ?_
  ·skip
   have g28 := hk.val 6 28 (by kernel_rfl) (by kernel_rfl) rfl
   have g29 := hk.val 7 29 (by kernel_rfl) (by kernel_rfl) rfl
   have hni : (n : Int) < (n : Int) + 1 := by omega
   have hn0 : (0 : Int) ≤ (n : Int) := by omega
   have hK := hK _ X ⟨hS.gr, hS.row, hS.lit, hS.val, hS.done⟩ (fun _ hx => Option.some.inj hx)
   clear hk hz hL
   go_simp
   exact hK
  refine Reg.EachG.plain rfl (fun L u T X hL hz hS hk K hK => ?_) ?_
  ·skip
   have g30 := hk.val 8 30 (by kernel_rfl) (by kernel_rfl) rfl
   have d13 : L 13 = false := hz 13 (by kernel_rfl)
   refine wp_load_part 57 _ rfl g (n * 9) (by simp [Act.eval, g30]) _ cur (x.cells (.slice ka km kc)) (0, 0) _ (hS.row d13) HCELL.out Tryz.underlying57 rfl re_size ?_
   exact hK _ X ⟨hS.gr, hS.row, hS.lit, hS.val, hS.done⟩ (fun _ hx => Option.some.inj hx)
  refine Reg.EachG.plain rfl (fun L u T X hL hz hS hk K hK => ?_) ?_
  ·skip
   have g31 := hk.val 9 31 (by kernel_rfl) (by kernel_rfl) rfl
   have d11 : L 11 = false := hz 11 (by kernel_rfl)
   have d13 : L 13 = false := hz 13 (by kernel_rfl)
   have hsz := hS.gr.size
   have hK := hK (.slice (some ⟨X.heap.size, 0, none⟩) 1 1) (X.alloc (.cells (x.cells (.slice ka km kc)).toArray 57)) ⟨hS.gr.trans (World.grownBy_alloc _ _ _), fun h => blk_alloc (hS.row d13) _, fun _ => ⟨X.heap.size, by rw [Reg.upd_same], hsz, alloc_last X _⟩, fun h => (by rw [Reg.upd_ne _ _ (by decide), d11] at h; cases h), fun h => (by rw [Reg.upd_ne _ _ (by decide), d13] at h; cases h)⟩ (fun _ hx => by cases hx)
   clear hk hz hL d11 d13 hS hsz
   unfold Nd.cells at hK g31
   go_simp
   exact hK
  refine Reg.EachG.plain rfl (fun L u T X hL hz hS hk K hK => ?_) ?_
  ·skip
   have g25 := hk.val 3 25 (by kernel_rfl) (by kernel_rfl) rfl
   have g27 := hk.val 5 27 (by kernel_rfl) (by kernel_rfl) rfl
   obtain ⟨g32, l32⟩ := hk.any 10 32 (by kernel_rfl) (by kernel_rfl)
   have d13 : L 13 = false := hz 13 (by kernel_rfl)
   obtain ⟨b, e10, hb1, hb2⟩ := hS.lit l32
   rw [e10] at g32
   have hbu := rp_built lo hi b
   refine wp_build _ _ rfl ?_ ?_
   ·simp [Act.eval, g25, g27, g32, hbu]
   have hK := hK ((repN lo hi x).v (.slice (some ⟨b, 0, none⟩) 1 1)) X ⟨hS.gr, fun _ => hS.row d13, fun _ => ⟨b, by rw [Reg.upd_ne _ _ (by decide)]; exact e10, hb1, hb2⟩, fun _ => ⟨by rw [Reg.upd_ne _ _ (by decide)]; exact l32, fun b' hb' => (by rw [Reg.upd_ne _ _ (by decide), e10] at hb'; simp only [Value.slice.injEq, Option.some.injEq, Addr.mk.injEq, and_true] at hb'; rw [Reg.upd_same, hb'])⟩, fun h => (by rw [Reg.upd_ne _ _ (by decide), d13] at h; cases h)⟩ (fun _ hx => by cases hx)
   rw [repN_v] at hK
   simp [Act.eval, g25, g27, g32, hbu]
   exact hK
  refine Reg.EachG.plain rfl (fun L u T X hL hz hS hk K hK => ?_) ?_
  ·skip
   have g22 := hk.val 0 22 (by kernel_rfl) (by kernel_rfl) rfl
   have g23 := hk.val 1 23 (by kernel_rfl) (by kernel_rfl) rfl
   have hni : (n : Int) < (n : Int) + 1 := by omega
   have hn0 : (0 : Int) ≤ (n : Int) := by omega
   have hK := hK _ X ⟨hS.gr, hS.row, hS.lit, hS.val, hS.done⟩ (fun _ hx => Option.some.inj hx)
   clear hk hz hL
   go_simp
   exact hK
  refine Reg.EachG.plain rfl (fun L u T X hL hz hS hk K hK => ?_) ?_
  ·skip
   obtain ⟨g33, l33⟩ := hk.any 11 33 (by kernel_rfl) (by kernel_rfl)
   have g34 := hk.val 12 34 (by kernel_rfl) (by kernel_rfl) rfl
   obtain ⟨d10, hval⟩ := hS.val l33
   obtain ⟨b, e10, hb1, hb2⟩ := hS.lit d10
   have e11 := hval b e10
   rw [e11] at g33
   refine wp_store_part 57 _ _ rfl g (n * 9) ((repN lo hi x).cells (.slice (some ⟨b, 0, none⟩) 1 1)) (by simp [Act.eval, g34]) (by simp [Act.eval, g33, Nd.v]) _ cur (hS.row hL) re_size (by rw [Nd.cells_len]; exact hcsz) rfl ?_
   exact hK undef _ ⟨hS.gr.trans (grown_setRow _ _ _), fun h => (by rw [Reg.upd_same] at h; cases h), fun _ => ⟨b, by rw [Reg.upd_ne _ _ (by decide)]; exact e10, hb1, blk_setRow hb2 (by omega) _⟩, fun _ => ⟨by rw [Reg.upd_ne _ _ (by decide)]; exact d10, fun b' hb' => (by rw [Reg.upd_ne _ _ (by decide)] at hb'; rw [Reg.upd_ne _ _ (by decide)]; exact hval b' hb')⟩, fun _ _ b' hb' => (by rw [Reg.upd_ne _ _ (by decide), e10] at hb'; simp only [Value.slice.injEq, Option.some.injEq, Addr.mk.injEq, and_true] at hb'; rw [← hb']; exact setRow_selfR (hS.row hL) _)⟩ (fun _ hx => by cases hx)
  exact Reg.EachG.nil
 case rsZ =>
  intro L u w9 hL hS hI
  have e0 := hI 0 (by decide) _ rfl
  have e1 := hI 1 (by decide) _ rfl
  have e2 := hI 2 (by decide) _ rfl
  have e3 := hI 3 (by decide) _ rfl
  have e4 := hI 4 (by decide) _ rfl
  have e5 := hI 5 (by decide) _ rfl
  have e6 := hI 6 (by decide) _ rfl
  have e7 := hI 7 (by decide) _ rfl
  have e8 := hI 8 (by decide) _ rfl
  have e9 := hI 9 (by decide) _ rfl
  have e12 := hI 12 (by decide) _ rfl
  clear hI
  simp only [Reg.putAll, Act.put, List.setIfInBounds_toArray, List.set_cons_succ, List.set_cons_zero, Nat.zero_add, Nat.reduceAdd, e0, e1, e2, e3, e4, e5, e6, e7, e8, e9, e12]
  clear e0 e1 e2 e3 e4 e5 e6 e7 e8 e9 e12
  have d10 := hL 10 (by decide)
  have d13 := hL 13 (by decide)
  obtain ⟨b, e10, hb1, hb2⟩ := hS.lit d10
  have hrow := hS.done d13 d10 b e10
  have HF := Lib.hid (HFIN.out w9 b hS.gr hb1 hb2 hrow)
  have HGG := Lib.hid (HGR.out.trans hS.gr)
  clear hS d10 d13 hL hrow hb2 e10
  generalize u 10 = y10 at *
  generalize u 11 = y11 at *
  clear u L
  go_wp2
  go_ret
  exact ⟨rfl, HF.out, HGG.out⟩
theorem CapR.setRow {w : World} {x0 x1 x2 cb : Nat} {ext : Bool} {bv : Value} (h : CapR w x0 x1 x2 cb ext bv) {g : Nat} {old : Array Value} {T : TypeId} (hg : w.heap[g]? = some (.cells old T (0, 0))) (hT : T = 57 ∨ T = 63) (c : Array Value) : CapR (w.setRow g c) x0 x1 x2 cb ext bv := by
 have k : ∀ (i : Nat) (cs : Array Value) (U : TypeId), U ≠ 57 → U ≠ 63 → w.heap[i]? = some (.cells cs U (0, 0)) → (w.setRow g c).heap[i]? = some (.cells cs U (0, 0)) := fun i cs U h1 h2 hi => (setRow_other _ _ _ _ (fun e => by
  subst e
  rw [hg] at hi
  simp only [Option.some.injEq, Obj.cells.injEq] at hi
  rcases hT with e | e
  ·exact h1 (hi.2.1.symm.trans e)
  ·exact h2 (hi.2.1.symm.trans e))).trans hi
 exact ⟨k _ _ _ (by decide) (by decide) h.c, k _ _ _ (by decide) (by decide) h.x, k _ _ _ (by decide) (by decide) h.b, h.n0, h.n1, h.n2⟩
theorem RdS.setRow {cf : ByteArray → (Nat → Bool) × Bool} {l : List Int} {ext : Bool} {B : Nat} {e : Nat → Addr} {bv : Value} {x0 x1 x2 cb rb k g o : Nat} {w : World} (h : RdS cf l ext B e bv x0 x1 x2 cb rb k g o w) {b : Nat} {old : Array Value} {T : TypeId} (hb : w.heap[b]? = some (.cells old T (0, 0))) (hT : T = 57 ∨ T = 63) (hB : B ≤ b) (c : Array Value) : RdS cf l ext B e bv x0 x1 x2 cb rb k g o (w.setRow b c) := by
 obtain ⟨lo, hi, ev, j, h1, h2, h3⟩ := h.rd
 have n1 : b ≠ rb := fun e => by
  subst e
  rw [h1] at hb
  simp only [Option.some.injEq, Obj.cells.injEq] at hb
  rcases hT with e | e
  ·exact absurd (hb.2.1.trans e) (by decide)
  ·exact absurd (hb.2.1.trans e) (by decide)
 have n2 : b ≠ cb := fun e => by
  subst e
  rw [h2.1] at hb
  simp only [Option.some.injEq, Obj.cells.injEq] at hb
  rcases hT with e | e
  ·exact absurd (hb.2.1.trans e) (by decide)
  ·exact absurd (hb.2.1.trans e) (by decide)
 have hbl : Below B w (w.setRow b c) := below_setRow (Below.refl _ _) hB c
 exact { cx := h.cx, rd := ⟨lo, hi, ev, j, blk_setRow h1 n1 c, cur_setRow h2 n2 c, h3.setRow hb (by rcases hT with e | e <;> rw [e] <;> decide) c⟩, cap := h.cap.setRow hb hT c, es := h.es.below hbl, sl := sl_ch h.sl hbl h.cx.nb, kl := h.kl }
theorem RdS.grown {cf : ByteArray → (Nat → Bool) × Bool} {l : List Int} {ext : Bool} {B : Nat} {e : Nat → Addr} {bv : Value} {x0 x1 x2 cb rb k g o : Nat} {w w' : World} (h : RdS cf l ext B e bv x0 x1 x2 cb rb k g o w) {r : Option Nat} (hg : w.grownBy w' r) (hr : ∀ b, r = some b → B ≤ b ∧ ∃ cs, w.heap[b]? = some (.cells cs 57 (0, 0))) : RdS cf l ext B e bv x0 x1 x2 cb rb k g o w' := by
 obtain ⟨lo, hi, ev, j, h1, h2, h3⟩ := h.rd
 have hB : B ≤ w.heap.size := h.es.big
 have kp : ∀ (i : Nat) (cs : Array Value) (U : TypeId), U ≠ 57 → w.heap[i]? = some (.cells cs U (0, 0)) → w'.heap[i]? = w.heap[i]? := fun i cs U hU hi => hg.block i (lt_blkB hi) (fun e => by
  obtain ⟨_, cs', hc⟩ := hr i e.symm
  rw [hi] at hc
  simp only [Option.some.injEq, Obj.cells.injEq] at hc
  exact hU hc.2.1)
 have hbl : Below B w w' := ⟨hg.os, hg.tape, hg.output, hg.size, fun i hi => hg.block i (by omega) (fun e => by have := (hr i e.symm).1; omega)⟩
 refine { cx := h.cx, rd := ⟨lo, hi, ev, j, (kp _ _ _ (by decide) h1).trans h1, ⟨(kp _ _ _ (by decide) h2.1).trans h2.1, h2.2⟩, ?_⟩, cap := ⟨(kp _ _ _ (by decide) h.cap.c).trans h.cap.c, (kp _ _ _ (by decide) h.cap.x).trans h.cap.x, (kp _ _ _ (by decide) h.cap.b).trans h.cap.b, h.cap.n0, h.cap.n1, h.cap.n2⟩, es := h.es.below hbl, sl := sl_ch h.sl hbl h.cx.nb, kl := h.kl }
 unfold SgE at *
 cases he : (sg cf l ext k).er with
 | none => rw [he] at h3; exact h3
 | some cp =>
  rw [he] at h3
  exact ⟨h3.1, h3.2.kept hg.size fun k cs T hT hk => kp k cs T (by rcases hT with h | h | h <;> rw [h] <;> decide) hk⟩
theorem ChR.grown {B : Nat} {w w1 w2 : World} (h : ChR B w w1) {r : Option Nat} (hg : w1.grownBy w2 r) (hr : ∀ b, r = some b → w.heap.size ≤ b) (hB : B ≤ w.heap.size) : ChR B w w2 :=
 have hs := h.bel.size
 ⟨⟨hg.os.trans h.bel.os, hg.tape.trans h.bel.tape, hg.output.trans h.bel.output, Nat.le_trans h.bel.size hg.size, fun i hi => (hg.block i (by omega) (fun e => by have := hr i e.symm; omega)).trans (h.bel.block i hi)⟩, fun i cs T h1 h2 h3 => by
  have hl := lt_blkB h3
  exact (hg.block i (by omega) (fun e => by have := hr i e.symm; omega)).trans (h.oth i cs T h1 h2 h3)⟩
theorem ChR.alloc {B : Nat} {w w1 : World} (h : ChR B w w1) (hB : B ≤ w.heap.size) (x : Obj) : ChR B w (w1.alloc x) := h.trans (ChR.below ((Below.refl _ _).alloc (Nat.le_refl _) _) (Nat.le_trans hB h.bel.size))
theorem own_row {w : World} {B : Nat} {e : TypeId} {s : Nat} {v : Value} {n : Nat} {xs : List Value} (h : w.ownsRow B e s v n xs) : ∀ b, v.ownBlock = some b → B ≤ b ∧ ∃ cs, w.heap[b]? = some (.cells cs e (0, 0)) := by
 intro b hb
 have hl := own_ltB h hb
 obtain ⟨h0, ⟨rfl, h1⟩ | ⟨g, cap, cur, rfl, h2, h3, h4⟩⟩ := h
 ·cases hb
 ·have e : g = b := Option.some.inj hb
  subst e
  exact ⟨hl.1, cur, h3⟩
structure ItS (W : World) (n : Nat) (cs : Array Value) (b : Bool) (X : World) : Prop where
 no : b = false → X = W
 yes : b = true → X = W.setRow n cs
theorem ItS.or {W : World} {n : Nat} {cs : Array Value} {b : Bool} {X : World} (h : ItS W n cs b X) : X = W ∨ X = W.setRow n cs := by
 cases b with
 | false => exact Or.inl (h.no rfl)
 | true => exact Or.inr (h.yes rfl)
theorem item_leaf (kd : Nat) (k : Nat) (t : ByteArray) (nd : Nd) (lo hi : Int) (ev : Value) (p : Value) (w : World) (hk : kd ≠ 2) :
  Calls Tryz.prog 81 #[p, .agg (sgA kd k t nd lo hi ev)] w fun x w' => x = .returned (.tuple #[nd.v nilS, ev]) ∧ Below w.heap.size w w' := by
 obtain ⟨W, hW⟩ : ∃ W, W = (w.alloc (.cells (sgA kd k t nd lo hi ev) 63)).alloc (.cells zero9 57) := ⟨_, rfl⟩
 have HBX : Hid (W.heap[w.heap.size]? = some (.cells (sgA kd k t nd lo hi ev) 63 (0, 0))) := Lib.hid (by rw [hW]; exact blk_alloc (alloc_last w _) _)
 have HG : Hid (W.heap[w.heap.size + 1]? = some (.cells zero9 57 (0, 0))) := Lib.hid (by rw [hW]; have := alloc_last (w.alloc (.cells (sgA kd k t nd lo hi ev) 63)) (.cells zero9 57); simpa using this)
 have HB : Hid (Below w.heap.size w W) := Lib.hid (by rw [hW]; exact ((Below.refl _ _).alloc (Nat.le_refl _) _).alloc (by simp) _)
 have HC : ∀ i u, (nd.cells nilS)[i]? = some u → (sgA kd k t nd lo hi ev)[3 + i]? = some u := fun i u hu => by
  have hl : i < 9 := (List.getElem?_eq_some_iff.1 hu).1
  unfold sgA nilS Nd.cells at *
  match i, hl with
  | 0, _ => exact hu
  | 1, _ => exact hu
  | 2, _ => exact hu
  | 3, _ => exact hu
  | 4, _ => exact hu
  | 5, _ => exact hu
  | 6, _ => exact hu
  | 7, _ => exact hu
  | 8, _ => exact hu
 have HCC := Lib.hid HC
 have hq : ((kd : Int) == 2) = false := by simp; omega
 have HCE : Hid (∀ X : World, X = W.drew ∨ X = W.drew.setRow (w.heap.size + 1) (nd.cells nilS).toArray → X.heap[w.heap.size]? = some (.cells (sgA kd k t nd lo hi ev) 63 (0, 0))) := Lib.hid (fun X hX => by
  rcases hX with rfl | rfl
  ·exact HBX.out
  ·exact blk_setRow HBX.out (by omega) _)
 have HEV : Hid ((sgA kd k t nd lo hi ev)[14]? = some ev) := Lib.hid rfl
 have c0 : W.cell? ⟨w.heap.size, 0, none⟩ = some (.int .i64 kd) := (Lib.cell_of_heap HBX.out 0).trans rfl
 have HWE := Lib.hid hW
 have HKK := Lib.hid hk
 clear hk hW HC
 unfold sgA zero9 at HWE
 have HSA : Hid (sgA kd k t nd lo hi ev = sgA kd k t nd lo hi ev) := Lib.hid rfl
 clear HSA
 unfold sgA
 go_enter Tryz.func81, Tryz.ntmps81
 go_upto_region 1 with fail
 rw [← HWE.out]
 go_upto_region 3 with fail
 clear c0
 refine Reg.wp_region_sto (fun L _ X => ItS W.drew (w.heap.size + 1) (nd.cells nilS).toArray (L 4) X) (fun j => ([some (.pointer (some ⟨w.heap.size, 3, none⟩)), some (nd.v nilS), some (.pointer (some ⟨w.heap.size, 14, none⟩)), some (ev), none, some (ev)] : List (Option Value)).getD j none) (by kernel_rfl) (by kernel_rfl) (by kernel_rfl) (by kernel_rfl) ?rs0 ?rsE ?rsZ
 case rs0 => exact ⟨fun _ => rfl, fun h => (by cases h)⟩
 case rsE =>
  refine Reg.EachG.plain rfl (fun L u T X hL hz hS hk K hK => ?_) ?_
  ·skip
   have g3 := hk.old 3 (by kernel_rfl) rfl
   have hK := hK _ X hS (fun _ hx => Option.some.inj hx)
   clear hk hz hL
   go_simp
   exact hK
  refine Reg.EachG.plain rfl (fun L u T X hL hz hS hk K hK => ?_) ?_
  ·skip
   have g15 := hk.val 0 15 (by kernel_rfl) (by kernel_rfl) rfl
   have hor := hS.or
   refine wp_load_part 57 _ rfl w.heap.size 3 (by simp [Act.eval, g15]) _ (sgA kd k t nd lo hi ev) (nd.cells nilS) (0, 0) _ (HCE.out X hor) HCC.out Tryz.underlying57 rfl re_size ?_
   exact hK _ X hS (fun _ hx => Option.some.inj hx)
  refine Reg.EachG.plain rfl (fun L u T X hL hz hS hk K hK => ?_) ?_
  ·skip
   have g3 := hk.old 3 (by kernel_rfl) rfl
   have hK := hK _ X hS (fun _ hx => Option.some.inj hx)
   clear hk hz hL
   go_simp
   exact hK
  refine Reg.EachG.plain rfl (fun L u T X hL hz hS hk K hK => ?_) ?_
  ·skip
   have g17 := hk.val 2 17 (by kernel_rfl) (by kernel_rfl) rfl
   have hor := hS.or
   have cb := (Lib.cell_of_heap (HCE.out X hor) 14).trans HEV.out
   have hK := hK _ X hS (fun _ hx => Option.some.inj hx)
   clear hk hz hL hS hor
   go_simp
   exact hK
  refine Reg.EachG.plain rfl (fun L u T X hL hz hS hk K hK => ?_) ?_
  ·skip
   have g4 := hk.old 4 (by kernel_rfl) rfl
   have g16 := hk.val 1 16 (by kernel_rfl) (by kernel_rfl) rfl
   have hS' : X = W.drew := hS.no hL
   clear hS hk
   subst hS'
   refine wp_store_part 57 _ _ rfl (w.heap.size + 1) 0 (nd.cells nilS) (by simp [Act.eval, g4]) (by simp [Act.eval, g16, Nd.v]) _ zero9 HG.out re_size (Nat.le_refl 9) (by simp [Nd.cells, nilS, Value.oneCell']) ?_
   exact hK undef _ ⟨fun h => (by rw [Reg.upd_same] at h; cases h), fun _ => rfl⟩ (fun _ hx => by cases hx)
  refine Reg.EachG.plain rfl (fun L u T X hL hz hS hk K hK => ?_) ?_
  ·skip
   have g18 := hk.val 3 18 (by kernel_rfl) (by kernel_rfl) rfl
   have hK := hK _ X hS (fun _ hx => Option.some.inj hx)
   clear hk hz hL
   go_simp
   exact hK
  exact Reg.EachG.nil
 case rsZ =>
  intro L u w9 hL hS hI
  have e0 := hI 0 (by decide) _ rfl
  have e1 := hI 1 (by decide) _ rfl
  have e2 := hI 2 (by decide) _ rfl
  have e3 := hI 3 (by decide) _ rfl
  have e5 := hI 5 (by decide) _ rfl
  clear hI
  simp only [Reg.putAll, Act.put, List.setIfInBounds_toArray, List.set_cons_succ, List.set_cons_zero, Nat.zero_add, Nat.reduceAdd, e0, e1, e2, e3, e5]
  clear e0 e1 e2 e3 e5
  have d4 := hL 4 (by decide)
  have hS4 := hS.yes d4
  clear hS
  subst hS4
  clear d4 hL u L
  go_wp2
  exact bodyPost_ret (results_re2 rfl _ _ (w.heap.size + 1) nd nilS ev rfl rfl (setRow_selfR HG.out _)) rfl ⟨rfl, below_setRow HB.out.drew (by omega) _⟩
end Go.Proofs.YtnpkcllbpnmabaaGreatDoor
