import Derived.Test.YtnpkcllbpnmabaaGreatDoorKRu
import Derived.Deep.LoopGhost
import Derived.Test.YtnpkcllbpnmabaaGreatDoorKPu
namespace Go.Proofs.YtnpkcllbpnmabaaGreatDoor
set_option maxHeartbeats 8000000
set_option maxRecDepth 100000
open Go.RowKit
def RrP (cf : ByteArray → (Nat → Bool) × Bool) (l : List Int) (ext : Bool) (B : Nat) (e : Nat → Addr) (bv : Value) (x0 x1 x2 cb rb : Nat) (o : Nat) (r : RR) (w : World) (x : Ending) (w' : World) : Prop :=
  match r with
  | .ok t k g => ∃ a m c, x = .returned (.tuple #[t.v (.slice a m c), .nilIface]) ∧ t.In w' (fun b => w.heap.size ≤ b) (.slice a m c) ∧ RdS cf l ext B e bv x0 x1 x2 cb rb k g o w' ∧ ChR B w w'
  | .bad c p => ∃ U b, x = .returned (.tuple #[zeroN.v nilS, .iface U (.pointer (some ⟨b, 0, none⟩))]) ∧ ErrQ w' e ext c p (.iface U (.pointer (some ⟨b, 0, none⟩))) ∧ ChR B w w'
theorem sg_no_er (cf : ByteArray → (Nat → Bool) × Bool) (l : List Int) (ext : Bool) (k : Nat) : (sg cf l ext k).kd ≠ 0 → (sg cf l ext k).kd ≠ 1 → (sg cf l ext k).er = none := by
  apply sg_cases (fun s => s.kd ≠ 0 → s.kd ≠ 1 → s.er = none) <;> intros <;> simp_all
theorem g9_built (k : Int) (a : Option Addr) (n c : Nat) : Tryz.prog.built 57 [(0, .int .i64 7), (4, .int .i64 k), (5, .slice a n c)] = some #[.int .i64 7, .int .u64 0, .int .u64 0, .int .u64 0, .int .u64 0, .int .i64 0, .int .i64 0, .int .i64 k, .slice a n c] := by kernel_rfl
theorem grpN_v (k : Int) (x : Nd) (b : Nat) : (grpN k x).v (.slice (some ⟨b, 0, none⟩) 1 1) = .agg #[.int .i64 7, .int .u64 0, .int .u64 0, .int .u64 0, .int .u64 0, .int .i64 0, .int .i64 0, .int .i64 k, .slice (some ⟨b, 0, none⟩) 1 1] := by unfold Nd.v grpN; rw [cells_no]
theorem grp_in {w : World} {S : Nat → Prop} {x : Nd} {kv : Value} {b : Nat} {k : Int} (hb : w.heap[b]? = some (.cells (x.cells kv).toArray 57 (0, 0))) (hx : x.In w S kv) (hS : S b) : (grpN k x).In w S (.slice (some ⟨b, 0, none⟩) 1 1) :=
  ⟨_, ⟨lit_row hb 0 (Nat.zero_le _), fun b' hb' => by
    have : b' = b := (Option.some.inj hb').symm
    rw [this]
    exact hS⟩, lay_one hx⟩
theorem ChR.setRb {B rb : Nat} {w w' : World} {cs : Array Value} (h : ChR B w w') (hr : w'.heap[rb]? = some (.cells cs 65 (0, 0))) (hB : B ≤ rb) (i : Nat) (v : Value) : ChR B w (w'.setCell ⟨rb, i, none⟩ v) :=
  ⟨⟨h.bel.os, h.bel.tape, h.bel.output, Nat.le_trans h.bel.size (grown_set w' rb i v).size, fun k hk => ((grown_set w' rb i v).block k (by
      have := lt_blkB hr
      omega) (fun e => by have := Option.some.inj e; omega)).trans (h.bel.block k hk)⟩, fun k cs' T h1 h2 h3 => by
    have h4 := h.oth k cs' T h1 h2 h3
    have h5 := h4.trans h3
    exact ((grown_set w' rb i v).block k (lt_blkB h5) (fun e => by
      have := Option.some.inj e
      subst this
      rw [hr] at h5
      simp only [Option.some.injEq, Obj.cells.injEq] at h5
      exact h1 h5.2.1.symm)).trans h4⟩
theorem RdS.setRb {cf : ByteArray → (Nat → Bool) × Bool} {l : List Int} {ext : Bool} {B : Nat} {e : Nat → Addr} {bv : Value} {x0 x1 x2 cb rb k g o g' o' i : Nat} {w : World} (v : Value) (h : RdS cf l ext B e bv x0 x1 x2 cb rb k g o w)
    (hv : ∀ kd t nd lo hi ev, (w.heap[rb]? = some (.cells (rdA ext x0 x1 x2 (sgA kd k t nd lo hi ev) g o) 65 (0, 0)) → (w.setCell ⟨rb, i, none⟩ v).heap[rb]? = some (.cells (rdA ext x0 x1 x2 (sgA kd k t nd lo hi ev) g' o') 65 (0, 0)))) : RdS cf l ext B e bv x0 x1 x2 cb rb k g' o' (w.setCell ⟨rb, i, none⟩ v) := by
  obtain ⟨lo, hi, ev, j, h1, h2, h3⟩ := h.rd
  have hch : ChR B w (w.setCell ⟨rb, i, none⟩ v) := (ChR.refl B w).setRb h1 h.cx.br i v
  have hne := h.cx.ne
  exact { cx := h.cx, rd := ⟨lo, hi, ev, j, hv _ _ _ _ _ _ h1, ⟨((grown_set w rb i v).block cb (lt_blkB h2.1) (fun e => hne (Option.some.inj e).symm)).trans h2.1, h2.2⟩, h3.ch hch⟩, cap := cap_ch h.cap hch, es := h.es.below hch.bel, sl := sl_ch h.sl hch.bel h.cx.nb, kl := h.kl }
theorem RdS.setG {cf : ByteArray → (Nat → Bool) × Bool} {l : List Int} {ext : Bool} {B : Nat} {e : Nat → Addr} {bv : Value} {x0 x1 x2 cb rb k g o : Nat} {w : World} (g' : Nat) (h : RdS cf l ext B e bv x0 x1 x2 cb rb k g o w) : RdS cf l ext B e bv x0 x1 x2 cb rb k g' o (w.setCell ⟨rb, 17, none⟩ (.int .i64 g')) :=
  h.setRb _ fun _ _ _ _ _ _ hr => by
    show (w.heap.modify rb _)[rb]? = _
    rw [Array.getElem?_modify, if_pos rfl, hr]
    rfl
theorem RdS.setO {cf : ByteArray → (Nat → Bool) × Bool} {l : List Int} {ext : Bool} {B : Nat} {e : Nat → Addr} {bv : Value} {x0 x1 x2 cb rb k g o : Nat} {w : World} (o' : Nat) (h : RdS cf l ext B e bv x0 x1 x2 cb rb k g o w) : RdS cf l ext B e bv x0 x1 x2 cb rb k g o' (w.setCell ⟨rb, 18, none⟩ (.int .i64 o')) :=
  h.setRb _ fun _ _ _ _ _ _ hr => by
    show (w.heap.modify rb _)[rb]? = _
    rw [Array.getElem?_modify, if_pos rfl, hr]
    rfl
theorem RdS.row {cf : ByteArray → (Nat → Bool) × Bool} {l : List Int} {ext : Bool} {B : Nat} {e : Nat → Addr} {bv : Value} {x0 x1 x2 cb rb k g o : Nat} {w : World} (h : RdS cf l ext B e bv x0 x1 x2 cb rb k g o w) : ∃ cs, w.heap[rb]? = some (.cells cs 65 (0, 0)) := by
  obtain ⟨lo, hi, ev, j, h1, _, _⟩ := h.rd
  exact ⟨_, h1⟩
def grpR (cf : ByteArray → (Nat → Bool) × Bool) (l : List Int) (ext : Bool) (g : Nat) : RR → RR
  | .bad c p => .bad c p
  | .ok t k1 g1 => if (sg cf l ext k1).kd = 3 then .ok (grpN (g + 1 : Nat) t) (sg cf l ext k1).nx g1 else .bad 9 k1
theorem group_many (cf : ByteArray → (Nat → Bool) × Bool) (l : List Int) (ext : Bool) (B : Nat) (e : Nat → Addr) (bv : Value) (x0 x1 x2 cb rb j k o : Nat) (w : World) (h : RdS cf l ext B e bv x0 x1 x2 cb rb j 9 o w) :
    Calls Tryz.prog 96 #[.pointer (some ⟨rb, 0, none⟩), .int .i64 k] w (RrP cf l ext B e bv x0 x1 x2 cb rb o (.bad 5 k) w) := by
  obtain ⟨W, hW⟩ : ∃ W, W = w.alloc (.cells zero9 57) := ⟨_, rfl⟩
  have hB : B ≤ w.heap.size := h.es.big
  have hbw : Below w.heap.size w W := by rw [hW]; exact (Below.refl _ _).alloc (Nat.le_refl _) _
  have h1 := h.next hbw
  obtain ⟨_, _, _, c17, _, _, _⟩ := h1.cells
  have hrl := h1.lt.1
  have HRF := Lib.hid (refz_err e ext B W h1.es 5 (k : Nat) (by simp))
  have HG : Hid (W.heap[w.heap.size]? = some (.cells zero9 57 (0, 0))) := Lib.hid (by rw [hW]; exact alloc_last w _)
  have HBW := Lib.hid hbw
  have HWE := Lib.hid hW
  have HBB := Lib.hid hB
  clear h h1 hbw hW hB
  unfold zero9 at HWE
  go_enter Tryz.func96, Tryz.ntmps96
  go_upto_region 1 with fail
  rw [← HWE.out]
  go_wp2_with (first | (refine wpList_buildTo rfl 57 _ rfl _ rfl _ z9_built ?_) | (refine wpList_store_re rfl _ _ rfl rfl w.heap.size zeroN none 0 0 rfl zero9_v.symm _ HG.out rfl ?_) | fail)
  refine HRF.out.mono ?_
  rintro x w2 ⟨b, rfl, he2, hb2⟩
  have HG2 : Hid (w2.heap[w.heap.size]? = some (.cells zero9 57 (0, 0))) := Lib.hid (blk_below HG.out hb2)
  have HCH : Hid (ChR B w w2) := Lib.hid ((ChR.below HBW.out HBB.out).trans (ChR.below hb2 (Nat.le_trans HBB.out HBW.out.size)))
  have HE2 := Lib.hid he2
  clear hb2 he2 HG c17
  go_wp2_with (first | (refine wpList_store_re rfl _ _ rfl rfl w.heap.size zeroN none 0 0 rfl zero9_v.symm _ HG2.out rfl ?_) | fail)
  exact bodyPost_ret (results_re2 rfl _ _ w.heap.size zeroN nilS _ rfl rfl (setRow_selfR HG2.out _)) rfl ⟨_, b, rfl, HE2.out.setRow HG2.out (by decide) _, HCH.out.setNew (Nat.le_refl _) HBB.out _⟩
theorem group_any (cf : ByteArray → (Nat → Bool) × Bool) (l : List Int) (ext : Bool) (B : Nat) (e : Nat → Addr) (bv : Value) (x0 x1 x2 cb rb j g k o : Nat) (w : World) (h : RdS cf l ext B e bv x0 x1 x2 cb rb j g o w) (hg : g < 9) (ho : o ≤ 1048576) (r0 r : RR)
    (hre : ∀ W, RdS cf l ext B e bv x0 x1 x2 cb rb j (g + 1) (o + 1) W → Calls Tryz.prog 35 #[.pointer (some ⟨rb, 0, none⟩)] W (RrP cf l ext B e bv x0 x1 x2 cb rb (o + 1) r0 W))
    (hr : r = grpR cf l ext g r0) :
    Calls Tryz.prog 96 #[.pointer (some ⟨rb, 0, none⟩), .int .i64 k] w (RrP cf l ext B e bv x0 x1 x2 cb rb o r w) := by
  obtain ⟨W, hW⟩ : ∃ W, W = w.alloc (.cells zero9 57) := ⟨_, rfl⟩
  have hB : B ≤ w.heap.size := h.es.big
  have hbw : Below w.heap.size w W := by rw [hW]; exact (Below.refl _ _).alloc (Nat.le_refl _) _
  have h1 := h.next hbw
  obtain ⟨_, _, _, c17, c18, f17, f18⟩ := h1.cells
  have hrl := h1.lt.1
  have hrb := h.cx.br
  have hrw := h.lt.1
  obtain ⟨W2, hW2⟩ : ∃ W2, W2 = W.setCell ⟨rb, 17, none⟩ (.int .i64 ((g : Int) + 1)) := ⟨_, rfl⟩
  obtain ⟨W3, hW3⟩ : ∃ W3, W3 = W2.setCell ⟨rb, 18, none⟩ (.int .i64 ((o : Int) + 1)) := ⟨_, rfl⟩
  have h2 : RdS cf l ext B e bv x0 x1 x2 cb rb j (g + 1) o W2 := by rw [hW2]; exact h1.setG (g + 1)
  have h3 : RdS cf l ext B e bv x0 x1 x2 cb rb j (g + 1) (o + 1) W3 := by rw [hW3]; exact h2.setO (o + 1)
  obtain ⟨_, _, _, _, c18', _, f18'⟩ := h2.cells
  obtain ⟨_, _, _, c17', _, _, _⟩ := h3.cells
  have hc2 : ChR B w W2 := by
    obtain ⟨cs, hcs⟩ := h1.row
    rw [hW2]; exact (ChR.below hbw hB).setRb hcs hrb _ _
  have hc3 : ChR B w W3 := by
    obtain ⟨cs, hcs⟩ := h2.row
    rw [hW3]; exact hc2.setRb hcs hrb _ _
  have hG : W.heap[w.heap.size]? = some (.cells zero9 57 (0, 0)) := by rw [hW]; exact alloc_last w _
  have hG3 : W3.heap[w.heap.size]? = some (.cells zero9 57 (0, 0)) := by
    rw [hW3, hW2]
    exact blk_grown (blk_grown hG (grown_set _ _ _ _) (fun e => by have := Option.some.inj e; omega)) (grown_set _ _ _ _) (fun e => by have := Option.some.inj e; omega)
  have HG3 := Lib.hid hG3
  have HWE := Lib.hid hW
  have HW2 := Lib.hid hW2
  have HW3 := Lib.hid hW3
  have HC3 := Lib.hid hc3
  have HR3 := Lib.hid h3
  have HBB := Lib.hid hB
  have HRE := Lib.hid (hre W3 h3)
  have HRR := Lib.hid hr
  have hgi : ((g : Int) == 9) = false := by simp; omega
  have hr2 := h2.lt.1
  have hr3 := h3.lt.1
  clear h h1 hbw hW hW2 hW3 h2 h3 hc2 hc3 hG hG3 hB hre hr
  unfold zero9 at HWE
  go_enter Tryz.func96, Tryz.ntmps96
  go_upto_region 1 with fail
  rw [← HWE.out]
  go_upto_region 4 with fail
  rw [← HW2.out]
  clear c17 c18 f17 f18
  go_upto_region 5 with fail
  rw [← HW3.out]
  clear c18' f18' HWE HW2 HW3
  go_wp2_with fail
  refine HRE.out.mono ?_
  clear c17'
  rintro x w4 hp
  cases r0 with
  | bad c p =>
    obtain ⟨U, b, rfl, he4, hc4⟩ := hp
    have hrr : r = .bad c p := HRR.out
    subst hrr
    obtain ⟨W5, hW5⟩ : ∃ W5, W5 = w4.alloc (.cells zero9 57) := ⟨_, rfl⟩
    have hc5 : ChR B w W5 := by rw [hW5]; exact (HC3.out.trans hc4).alloc HBB.out _
    have hT5 : W5.heap[w4.heap.size]? = some (.cells zero9 57 (0, 0)) := by rw [hW5]; exact alloc_last _ _
    have hG5 : W5.heap[w.heap.size]? = some (.cells zero9 57 (0, 0)) := by rw [hW5]; exact blk_alloc ((hc4.oth _ _ _ (by decide) (by decide) HG3.out).trans HG3.out) _
    have hE5 : ErrQ W5 e ext c p (.iface U (.pointer (some ⟨b, 0, none⟩))) := by rw [hW5]; exact he4.below ((Below.refl _ _).alloc (Nat.le_refl _) _)
    have hlt : w.heap.size < w4.heap.size := by have := lt_blkB HG3.out; have := hc4.bel.size; omega
    have HT5 := Lib.hid hT5
    have HG6 : Hid ((W5.setRow w4.heap.size zero9).heap[w.heap.size]? = some (.cells zero9 57 (0, 0))) := Lib.hid (blk_setRow hG5 (by omega) _)
    have HE6 : Hid (ErrQ (W5.setRow w4.heap.size zero9) e ext c p (.iface U (.pointer (some ⟨b, 0, none⟩)))) := Lib.hid (hE5.setRow hT5 (by decide) _)
    have HC6 : Hid (ChR B w (W5.setRow w4.heap.size zero9)) := Lib.hid (hc5.setNew (by omega) (by have := HBB.out; omega) _)
    have HW5 := Lib.hid hW5
    obtain ⟨W6, hW6⟩ : ∃ W6, W6 = W5.setRow w4.heap.size zero9 := ⟨_, rfl⟩
    have HZ : Hid (W5.setRow w4.heap.size (zeroN.cells (.slice none 0 0)).toArray = W6) := Lib.hid (by rw [hW6]; exact congrArg _ zero9_n)
    rw [← hW6] at HG6 HE6 HC6
    clear hW5 hT5 hG5 hE5 hc5 hW6 he4 hc4
    unfold zero9 at HW5
    rw [zero9_v]
    unfold zero9
    go_upto_region 7 with (first | (rw [← HW5.out]; refine wpList_store_re rfl _ _ rfl rfl w4.heap.size zeroN none 0 0 rfl zero9_v.symm _ HT5.out rfl ?_; rw [HZ.out]) | fail)
    go_wp2_with (first | (refine wpList_buildTo rfl 57 _ rfl _ rfl _ z9_built ?_) | (refine wpList_store_re rfl _ _ rfl rfl w.heap.size zeroN none 0 0 rfl zero9_v.symm _ HG6.out rfl ?_) | fail)
    exact bodyPost_ret (results_re2 rfl _ _ w.heap.size zeroN nilS _ rfl rfl (setRow_selfR HG6.out _)) rfl ⟨_, b, rfl, HE6.out.setRow HG6.out (by decide) _, HC6.out.setNew (Nat.le_refl _) HBB.out _⟩
  | ok t k1 g1 =>
    obtain ⟨a, m, c, rfl, hin4, hrd4, hc4⟩ := hp
    obtain ⟨W5, hW5⟩ : ∃ W5, W5 = w4.alloc (.cells zero9 57) := ⟨_, rfl⟩
    have hT5 : W5.heap[w4.heap.size]? = some (.cells zero9 57 (0, 0)) := by rw [hW5]; exact alloc_last _ _
    have hG5 : W5.heap[w.heap.size]? = some (.cells zero9 57 (0, 0)) := by rw [hW5]; exact blk_alloc ((hc4.oth _ _ _ (by decide) (by decide) HG3.out).trans HG3.out) _
    have hlt : w.heap.size < w4.heap.size := by have := lt_blkB HG3.out; have := hc4.bel.size; omega
    obtain ⟨W6, hW6⟩ : ∃ W6, W6 = W5.setRow w4.heap.size (t.cells (.slice a m c)).toArray := ⟨_, rfl⟩
    have hb5 : Below w4.heap.size w4 W5 := by rw [hW5]; exact (Below.refl _ _).alloc (Nat.le_refl _) _
    have hb6 : Below w4.heap.size w4 W6 := by rw [hW6]; exact below_setRow hb5 (Nat.le_refl _) _
    have hB4 : B ≤ w4.heap.size := by have := HBB.out; omega
    have hr6 : RdS cf l ext B e bv x0 x1 x2 cb rb k1 g1 (o + 1) W6 := hrd4.next hb6
    have hc6 : ChR B w W6 := (HC3.out.trans hc4).trans (ChR.below hb6 hB4)
    have hi6 : t.In W6 (fun b => w.heap.size + 1 ≤ b) (.slice a m c) := (hin4.below hb6).mono (fun k hk _ => by have := lt_blkB HG3.out; omega)
    have hT6 : W6.heap[w4.heap.size]? = some (.cells (t.cells (.slice a m c)).toArray 57 (0, 0)) := by rw [hW6]; exact setRow_selfR hT5 _
    have hG6 : W6.heap[w.heap.size]? = some (.cells zero9 57 (0, 0)) := by rw [hW6]; exact blk_setRow hG5 (by omega) _
    obtain ⟨_, c2, c3, _, _, _, _⟩ := hr6.cells
    have hrb6 := hr6.lt.1
    have HT5 := Lib.hid hT5
    have HW5 := Lib.hid hW5
    have HW6 := Lib.hid hW6
    have HR6 := Lib.hid hr6
    have HC6 := Lib.hid hc6
    have HI6 := Lib.hid hi6
    have HT6 := Lib.hid hT6
    have HG6 := Lib.hid hG6
    have hkd := sg_no_er cf l ext k1
    have HRF := Lib.hid (refz_err e ext B W6 hr6.es 9 (k1 : Nat) (by simp))
    have HTK := Lib.hid (rtake_any cf l ext B e bv x0 x1 x2 cb rb k1 g1 (o + 1) W6 hr6)
    clear hW5 hT5 hG5 hW6 hb5 hb6 hr6 hc6 hi6 hT6 hG6 hin4 hrd4 hc4
    unfold zero9 at HW5
    have HWV : Hid (t.v (.slice a m c) = .agg (t.cells (.slice a m c)).toArray) := Lib.hid rfl
    go_upto_region 7 with (first | (rw [← HW5.out]; refine wpList_store_re rfl _ _ rfl rfl w4.heap.size t a m c rfl rfl _ HT5.out rfl ?_; rw [← HW6.out]) | fail)
    by_cases h3 : (sg cf l ext k1).kd = 3
    · have hrr : r = .ok (grpN (g + 1 : Nat) t) (sg cf l ext k1).nx g1 := by rw [HRR.out]; exact if_pos h3
      have HNE : Hid ((sg cf l ext k1).er = none) := Lib.hid (hkd (by omega) (by omega))
      have HRQ := Lib.hid hrr
      rw [h3] at c2
      clear h3 hkd hrr
      go_wp2_with fail
      refine HTK.out.mono ?_
      rintro x w7 ⟨lo, hi, ev, jj, rfl, hse7, hrd7, hc7⟩
      have hjj : jj = (sg cf l ext k1).nx := by
        unfold SgE at hse7
        rw [HNE.out] at hse7
        exact hse7.2.2.2
      subst hjj
      have hT7 : w7.heap[w4.heap.size]? = some (.cells (t.cells (.slice a m c)).toArray 57 (0, 0)) := (hc7.oth _ _ _ (by decide) (by decide) HT6.out).trans HT6.out
      have hG7 : w7.heap[w.heap.size]? = some (.cells zero9 57 (0, 0)) := (hc7.oth _ _ _ (by decide) (by decide) HG6.out).trans HG6.out
      have hi7 : t.In w7 (fun b => w.heap.size + 1 ≤ b) (.slice a m c) := HI6.out.kept (hc7.same _)
      obtain ⟨_, _, _, _, k18, _, kf18⟩ := hrd7.cells
      have k18' : w7.cell? ⟨rb, 18, none⟩ = some (.int .i64 ((o : Int) + 1)) := k18
      have hrb7 := hrd7.lt.1
      have hs7 : w4.heap.size < w7.heap.size := lt_blkB hT7
      obtain ⟨W8, hW8⟩ : ∃ W8, W8 = w7.setCell ⟨rb, 18, none⟩ (.int .i64 (o : Int)) := ⟨_, rfl⟩
      have hr8 : RdS cf l ext B e bv x0 x1 x2 cb rb (sg cf l ext k1).nx g1 o W8 := by rw [hW8]; exact hrd7.setO o
      have hc8 : ChR B w W8 := by
        obtain ⟨cs, hcs⟩ := hrd7.row
        rw [hW8]; exact (HC6.out.trans hc7).setRb hcs hrb _ _
      have hg8 : w7.grownBy W8 (some rb) := by rw [hW8]; exact grown_set _ _ _ _
      have hT8 : W8.heap[w4.heap.size]? = some (.cells (t.cells (.slice a m c)).toArray 57 (0, 0)) := blk_grown hT7 hg8 (fun e => by have := Option.some.inj e; omega)
      have hG8 : W8.heap[w.heap.size]? = some (.cells zero9 57 (0, 0)) := blk_grown hG7 hg8 (fun e => by have := Option.some.inj e; omega)
      have hi8 : t.In W8 (fun b => w.heap.size + 1 ≤ b) (.slice a m c) := hi7.kept (fun k hk _ hc => hg8.block k (lt_blkB hc) (fun e => by have := Option.some.inj e; omega))
      obtain ⟨W9, hW9⟩ : ∃ W9, W9 = W8.alloc (.cells (t.cells (.slice a m c)).toArray 57) := ⟨_, rfl⟩
      have hb9 : Below W8.heap.size W8 W9 := by rw [hW9]; exact (Below.refl _ _).alloc (Nat.le_refl _) _
      have hs8 : w4.heap.size < W8.heap.size := lt_blkB hT8
      have hN9 : W9.heap[W8.heap.size]? = some (.cells (t.cells (.slice a m c)).toArray 57 (0, 0)) := by rw [hW9]; exact alloc_last _ _
      have HG9 : Hid (W9.heap[w.heap.size]? = some (.cells zero9 57 (0, 0))) := Lib.hid (blk_below hG8 hb9)
      have HI9 : Hid ((grpN (g + 1 : Nat) t).In W9 (fun b => w.heap.size + 1 ≤ b) (.slice (some ⟨W8.heap.size, 0, none⟩) 1 1)) := Lib.hid (grp_in hN9 (hi8.below hb9) (by omega))
      have HR9 := Lib.hid (hr8.next hb9)
      have HC9 : Hid (ChR B w W9) := Lib.hid (hc8.trans (ChR.below hb9 (by have := HBB.out; omega)))
      have HW8 := Lib.hid hW8
      have HW9 := Lib.hid hW9
      have HT8 := Lib.hid hT8
      have HGB := Lib.hid (g9_built ((g : Int) + 1) (some ⟨W8.heap.size, 0, none⟩) 1 1)
      have HGV : Hid (Value.agg #[.int .i64 7, .int .u64 0, .int .u64 0, .int .u64 0, .int .u64 0, .int .i64 0, .int .i64 0, .int .i64 ((g : Int) + 1), .slice (some ⟨W8.heap.size, 0, none⟩) 1 1] = (grpN (g + 1 : Nat) t).v (.slice (some ⟨W8.heap.size, 0, none⟩) 1 1)) := Lib.hid (grpN_v _ _ _).symm
      clear k18 hW8 hW9 hr8 hc8 hg8 hT8 hG8 hi8 hb9 hN9 hT7 hG7 hi7 hrd7 hc7 hse7 c2 c3
      unfold Nd.cells at HW9 HT8
      have hW9' := HW9.out
      clear HW9
      subst hW9'
      go_upto_region 13 with fail
      rw [← HW8.out]
      clear k18' kf18
      go_wp2_with (first | (refine wpList_load_row rfl 57 _ rfl w4.heap.size rfl _ _ (0, 0) _ HT8.out Tryz.underlying57 rfl re_size ?_) | (refine wpList_buildTo rfl 57 _ rfl _ rfl _ HGB.out ?_) | (refine wpList_store_re rfl _ _ rfl rfl w.heap.size (grpN (g + 1 : Nat) t) _ 1 1 rfl HGV.out _ HG9.out rfl ?_) | fail)
      refine bodyPost_ret (results_re2 rfl _ _ w.heap.size (grpN (g + 1 : Nat) t) (.slice (some ⟨W8.heap.size, 0, none⟩) 1 1) _ rfl rfl (setRow_selfR HG9.out _)) rfl ?_
      rw [HRQ.out]
      exact ⟨_, 1, 1, rfl, (HI9.out.kept (fun k hk _ _ => setRow_other _ _ _ _ (by omega))).mono (fun k hk _ => by omega), HR9.out.setRow HG9.out (Or.inl rfl) HBB.out _, HC9.out.setNew (Nat.le_refl _) HBB.out _⟩
    · have hrr : r = .bad 9 k1 := by rw [HRR.out]; exact if_neg h3
      have e3 : (((sg cf l ext k1).kd : Int) == 3) = false := by simp; omega
      subst hrr
      generalize hkk : (sg cf l ext k1).kd = kk at *
      clear h3 hkd hkk
      go_wp2_with (first | (refine wpList_buildTo rfl 57 _ rfl _ rfl _ z9_built ?_) | fail)
      refine HRF.out.mono ?_
      rintro x w7 ⟨b, rfl, he7, hb7⟩
      have HG7 : Hid (w7.heap[w.heap.size]? = some (.cells zero9 57 (0, 0))) := Lib.hid (blk_below HG6.out hb7)
      have HCH : Hid (ChR B w w7) := Lib.hid (HC6.out.trans (ChR.below hb7 (Nat.le_trans HBB.out HC6.out.bel.size)))
      have HE7 := Lib.hid he7
      clear hb7 he7 c2 c3
      go_wp2_with (first | (refine wpList_store_re rfl _ _ rfl rfl w.heap.size zeroN none 0 0 rfl zero9_v.symm _ HG7.out rfl ?_) | fail)
      exact bodyPost_ret (results_re2 rfl _ _ w.heap.size zeroN nilS _ rfl rfl (setRow_selfR HG7.out _)) rfl ⟨_, b, rfl, HE7.out.setRow HG7.out (by decide) _, HCH.out.setNew (Nat.le_refl _) HBB.out _⟩
def RrQ (cf : ByteArray → (Nat → Bool) × Bool) (l : List Int) (ext : Bool) (B : Nat) (e : Nat → Addr) (bv : Value) (x0 x1 x2 cb rb : Nat) (o : Nat) (r : RR) (w : World) (x : Ending) (w' : World) : Prop :=
  match r with
  | .ok t k g => ∃ a m c, x = .returned (.tuple #[t.v (.slice a m c), .nilIface]) ∧ t.In w' (fun b => w.heap.size ≤ b) (.slice a m c) ∧ RdS cf l ext B e bv x0 x1 x2 cb rb k g o w' ∧ ChR B w w'
  | .bad c p => ∃ y U b, x = .returned (.tuple #[Nd.v y nilS, .iface U (.pointer (some ⟨b, 0, none⟩))]) ∧ ErrQ w' e ext c p (.iface U (.pointer (some ⟨b, 0, none⟩))) ∧ ChR B w w'
theorem item_open (cf : ByteArray → (Nat → Bool) × Bool) (l : List Int) (ext : Bool) (B : Nat) (e : Nat → Addr) (bv : Value) (x0 x1 x2 cb rb o k : Nat) (t : ByteArray) (nd : Nd) (lo hi : Int) (ev : Value) (r : RR) (w : World) (hB : B ≤ w.heap.size)
    (hgr : ∀ W, Below w.heap.size w W → Calls Tryz.prog 96 #[.pointer (some ⟨rb, 0, none⟩), .int .i64 k] W (RrP cf l ext B e bv x0 x1 x2 cb rb o r W)) :
    Calls Tryz.prog 81 #[.pointer (some ⟨rb, 0, none⟩), .agg (sgA 2 k t nd lo hi ev)] w (RrQ cf l ext B e bv x0 x1 x2 cb rb o r w) := by
  obtain ⟨W, hW⟩ : ∃ W, W = (w.alloc (.cells (sgA 2 k t nd lo hi ev) 63)).alloc (.cells zero9 57) := ⟨_, rfl⟩
  have hbx : W.heap[w.heap.size]? = some (.cells (sgA 2 k t nd lo hi ev) 63 (0, 0)) := by rw [hW]; exact blk_alloc (alloc_last w _) _
  have HG : Hid (W.heap[w.heap.size + 1]? = some (.cells zero9 57 (0, 0))) := Lib.hid (by rw [hW]; have := alloc_last (w.alloc (.cells (sgA 2 k t nd lo hi ev) 63)) (.cells zero9 57); simpa using this)
  have hb : Below w.heap.size w W := by rw [hW]; exact ((Below.refl _ _).alloc (Nat.le_refl _) _).alloc (by simp) _
  have c0 : W.cell? ⟨w.heap.size, 0, none⟩ = some (.int .i64 2) := (Lib.cell_of_heap hbx 0).trans rfl
  have c1 : W.cell? ⟨w.heap.size, 1, none⟩ = some (.int .i64 k) := (Lib.cell_of_heap hbx 1).trans rfl
  have HGR := Lib.hid (hgr W hb)
  have HB := Lib.hid hb
  have HBB := Lib.hid hB
  have HWE := Lib.hid hW
  clear hW hb hbx hgr hB
  unfold sgA zero9 at HWE
  unfold sgA
  go_enter Tryz.func81, Tryz.ntmps81
  go_upto_region 1 with fail
  rw [← HWE.out]
  go_wp2_with fail
  refine HGR.out.mono ?_
  clear c0 c1
  rintro x w4 hp
  cases r with
  | bad c p =>
    obtain ⟨U, b, rfl, he4, hc4⟩ := hp
    have HG4 : Hid (w4.heap[w.heap.size + 1]? = some (.cells zero9 57 (0, 0))) := Lib.hid ((hc4.oth _ _ _ (by decide) (by decide) HG.out).trans HG.out)
    have HC4 : Hid (ChR B w w4) := Lib.hid ((ChR.below HB.out HBB.out).trans hc4)
    have HE4 := Lib.hid he4
    clear he4 hc4
    rw [zero9_v]
    unfold zero9
    go_wp2_with (first | (refine wpList_store_re rfl _ _ rfl rfl (w.heap.size + 1) zeroN none 0 0 rfl zero9_v.symm _ HG4.out rfl ?_) | fail)
    exact bodyPost_ret (results_re2 rfl _ _ (w.heap.size + 1) zeroN nilS _ rfl rfl (setRow_selfR HG4.out _)) rfl ⟨zeroN, _, b, rfl, HE4.out.setRow HG4.out (by decide) _, HC4.out.setNew (by omega) (by have := HBB.out; omega) _⟩
  | ok t' k1 g1 =>
    obtain ⟨a, m, c, rfl, hin4, hrd4, hc4⟩ := hp
    have HG4 : Hid (w4.heap[w.heap.size + 1]? = some (.cells zero9 57 (0, 0))) := Lib.hid ((hc4.oth _ _ _ (by decide) (by decide) HG.out).trans HG.out)
    have hws : w.heap.size + 1 < W.heap.size := lt_blkB HG.out
    have HC4 : Hid (ChR B w w4) := Lib.hid ((ChR.below HB.out HBB.out).trans hc4)
    have HI4 := Lib.hid hin4
    have HR4 := Lib.hid hrd4
    clear hin4 hrd4 hc4
    have HWV : Hid (t'.v (.slice a m c) = .agg (t'.cells (.slice a m c)).toArray) := Lib.hid rfl
    go_wp2_with (first | (refine wpList_store_re rfl _ _ rfl rfl (w.heap.size + 1) t' a m c rfl rfl _ HG4.out rfl ?_) | fail)
    exact bodyPost_ret (results_re2 rfl _ _ (w.heap.size + 1) t' (.slice a m c) _ rfl rfl (setRow_selfR HG4.out _)) rfl ⟨a, m, c, rfl, (HI4.out.kept (fun k hk _ _ => setRow_other _ _ _ _ (by omega))).mono (fun k hk _ => by omega), HR4.out.setRow HG4.out (Or.inl rfl) (by have := HBB.out; omega) _, HC4.out.setNew (by omega) (by have := HBB.out; omega) _⟩
def itR (cf : ByteArray → (Nat → Bool) × Bool) (l : List Int) (ext : Bool) (n k g o : Nat) : Option RR :=
  if (sg cf l ext k).kd = 2 then
    (if g = 9 then some (.bad 5 k) else (rdR cf l ext n (.re []) (sg cf l ext k).nx (g + 1) (o + 1)).map (grpR cf l ext g))
  else match (sg cf l ext k).er with
    | some (c, p) => some (.bad c p)
    | none => some (.ok (sg cf l ext k).nd (sg cf l ext k).nx g)
def ReC (cf : ByteArray → (Nat → Bool) × Bool) (l : List Int) (ext : Bool) (B : Nat) (e : Nat → Addr) (bv : Value) (x0 x1 x2 cb rb n : Nat) : Prop :=
  ∀ k g o r W, rdR cf l ext n (.re []) k g o = some r → g ≤ 9 → o ≤ k → RdS cf l ext B e bv x0 x1 x2 cb rb k g o W → Calls Tryz.prog 35 #[.pointer (some ⟨rb, 0, none⟩)] W (RrP cf l ext B e bv x0 x1 x2 cb rb o r W)
theorem item_leafQ {cf : ByteArray → (Nat → Bool) × Bool} {l : List Int} {ext : Bool} {B : Nat} {e : Nat → Addr} {bv : Value} {x0 x1 x2 cb rb j g o : Nat} {w : World} (kd : Nat) (k : Nat) (t : ByteArray) (nd : Nd) (lo hi : Int) (h : RdS cf l ext B e bv x0 x1 x2 cb rb j g o w) (hk : kd ≠ 2) (hn : nd.kids = .nil) :
    Calls Tryz.prog 81 #[.pointer (some ⟨rb, 0, none⟩), .agg (sgA kd k t nd lo hi .nilIface)] w (RrQ cf l ext B e bv x0 x1 x2 cb rb o (.ok nd j g) w) := by
  refine (item_leaf kd k t nd lo hi .nilIface _ w hk).mono ?_
  rintro x w' ⟨rfl, hb⟩
  exact ⟨none, 0, 0, rfl, leaf_in w' _ nd hn, h.next hb, ChR.below hb h.es.big⟩
theorem ritem_any {cf : ByteArray → (Nat → Bool) × Bool} {l : List Int} {ext : Bool} {B : Nat} {e : Nat → Addr} {bv : Value} {x0 x1 x2 cb rb n : Nat} (ih : ReC cf l ext B e bv x0 x1 x2 cb rb n) (k j g o : Nat) (lo hi : Int) (ev : Value) (r : RR) (w : World) (hg : g ≤ 9) (hok : o ≤ k) (hkl : k ≤ l.length)
    (hnb : endsB (sg cf l ext k).kd = false) (hn1 : (sg cf l ext k).kd ≠ 1) (hs : SgE e ext (sg cf l ext k) lo hi ev j w) (h : RdS cf l ext B e bv x0 x1 x2 cb rb j g o w) (hr : itR cf l ext n k g o = some r) :
    Calls Tryz.prog 81 #[.pointer (some ⟨rb, 0, none⟩), .agg (sgA (sg cf l ext k).kd k (ofBys (sg cf l ext k).tx) (sg cf l ext k).nd lo hi ev)] w (RrQ cf l ext B e bv x0 x1 x2 cb rb o r w) := by
  have hlen := h.cx.len
  have hnx := sg_gt cf l ext k hkl (fun h5 => by rw [h5] at hnb; cases hnb)
  unfold itR at hr
  by_cases h2 : (sg cf l ext k).kd = 2
  · rw [if_pos h2] at hr
    have hne := sg_no_er cf l ext k (by omega) (by omega)
    unfold SgE at hs
    rw [hne] at hs
    obtain ⟨rfl, rfl, rfl, rfl⟩ := hs
    have hB : B ≤ w.heap.size := h.es.big
    rw [h2]
    by_cases h9 : g = 9
    · rw [if_pos h9] at hr
      subst h9
      obtain rfl := Option.some.inj hr
      exact item_open cf l ext B e bv x0 x1 x2 cb rb o k _ _ _ _ _ _ w hB (fun W hW => group_many cf l ext B e bv x0 x1 x2 cb rb _ k o W (h.next hW))
    · rw [if_neg h9] at hr
      obtain ⟨r0, hr0, rfl⟩ := Option.map_eq_some_iff.1 hr
      exact item_open cf l ext B e bv x0 x1 x2 cb rb o k _ _ _ _ _ _ w hB (fun W hW => group_any cf l ext B e bv x0 x1 x2 cb rb _ g k o W (h.next hW) (by omega) (by omega) r0 _ (fun W' hW' => ih _ _ _ _ W' hr0 (by omega) (by omega) hW') rfl)
  · rw [if_neg h2] at hr
    cases he : (sg cf l ext k).er with
    | none =>
      rw [he] at hr
      obtain rfl := Option.some.inj hr
      unfold SgE at hs
      rw [he] at hs
      obtain ⟨rfl, rfl, rfl, rfl⟩ := hs
      exact item_leafQ _ k _ _ _ _ h h2 (sg_nd cf l ext k hnb hn1 h2 he).2
    | some cp =>
      obtain ⟨c, p⟩ := cp
      rw [he] at hr
      obtain rfl := Option.some.inj hr
      unfold SgE at hs
      rw [he] at hs
      obtain ⟨⟨U, b, rfl⟩, hq⟩ := hs
      refine (item_leaf _ k _ _ lo hi _ _ w h2).mono ?_
      rintro x w' ⟨rfl, hb⟩
      exact ⟨_, U, b, rfl, hq.below hb, ChR.below hb h.es.big⟩
theorem isByt_er {cf : ByteArray → (Nat → Bool) × Bool} {l : List Int} {ext : Bool} {k nk : Nat} {items : List Nd} (h : isByt ext (sg cf l ext k) nk items = true) : (sg cf l ext k).er = none := by
  unfold isByt at h
  cases ext with
  | true => cases h
  | false =>
    rw [if_neg (by decide), sg_tx] at h
    have key : sgT l k = [94] ∨ sgT l k = [36] ∨ sgT l k = [42] := by
      split at h
      · exact Or.inl ‹_›
      split at h
      · exact Or.inr (Or.inl ‹_›)
      split at h
      · exact Or.inr (Or.inr ‹_›)
      · cases h
    unfold sg
    rcases key with e | e | e <;> rw [e] <;> rfl
theorem rdR_item {cf : ByteArray → (Nat → Bool) × Bool} {l : List Int} {ext : Bool} {n : Nat} {items : List Nd} {k g o : Nat} {res : RR} (h0 : endsB (sg cf l ext k).kd = false) (h1 : isByt ext (sg cf l ext k) (sg cf l ext (sg cf l ext k).nx).kd items = false) (h2 : (sg cf l ext k).kd ≠ 1)
    (h : rdR cf l ext (n + 1) (.br items) k g o = some res) : ∃ r, itR cf l ext n k g o = some r ∧ match r with
      | .bad c p => res = .bad c p
      | .ok t k1 g1 => rdR cf l ext n (.br (items ++ [t])) k1 g1 o = some res := by
  rw [rdR_br, if_neg (by rw [h0]; decide), if_neg (by rw [h1]; decide), if_neg h2] at h
  unfold itR
  split at h
  · rename_i hk
    rw [if_pos hk]
    split at h
    · rename_i h9
      rw [if_pos h9]
      exact ⟨_, rfl, (Option.some.inj h).symm⟩
    · rename_i h9
      rw [if_neg h9]
      cases hr : rdR cf l ext n (.re []) (sg cf l ext k).nx (g + 1) (o + 1) with
      | none => rw [hr] at h; cases h
      | some r0 =>
        rw [hr] at h
        cases r0 with
        | bad c p => exact ⟨_, rfl, (Option.some.inj h).symm⟩
        | ok t k1 g1 =>
          refine ⟨_, rfl, ?_⟩
          dsimp only at h
          by_cases h3 : (sg cf l ext k1).kd = 3
          · have e : grpR cf l ext g (.ok t k1 g1) = .ok (grpN (g + 1 : Nat) t) (sg cf l ext k1).nx g1 := if_pos h3
            rw [if_pos h3] at h
            rw [e]
            exact h
          · have e : grpR cf l ext g (.ok t k1 g1) = .bad 9 k1 := if_neg h3
            rw [if_neg h3] at h
            rw [e]
            exact (Option.some.inj h).symm
  · rename_i hk
    rw [if_neg hk]
    cases he : (sg cf l ext k).er with
    | none => rw [he] at h; exact ⟨_, rfl, h⟩
    | some cp =>
      obtain ⟨c, p⟩ := cp
      rw [he] at h
      exact ⟨_, rfl, (Option.some.inj h).symm⟩
theorem itR_ok {cf : ByteArray → (Nat → Bool) × Bool} {l : List Int} {ext : Bool} {n k g o : Nat} {t : Nd} {k1 g1 : Nat} (h : itR cf l ext n k g o = some (.ok t k1 g1)) (hk : k ≤ l.length) (hg : g ≤ 9) (hnb : endsB (sg cf l ext k).kd = false) : k < k1 ∧ g1 ≤ 9 := by
  have hnx := sg_gt cf l ext k hk (fun h5 => by rw [h5] at hnb; cases hnb)
  have hnl := (sg_nx cf l ext k hk).2
  unfold itR at h
  split at h
  · split at h
    · cases h
    · obtain ⟨r0, hr0, he⟩ := Option.map_eq_some_iff.1 h
      cases r0 with
      | bad c p => cases he
      | ok t' k2 g2 =>
        have h1 := rdR_le _ _ _ _ _ _ _ _ _ _ _ hr0 hnl
        have h2 := rdR_kd _ _ _ _ _ _ _ _ _ _ _ hr0 (fun x hx => by cases hx) (by omega)
        unfold grpR at he
        dsimp only at he
        split at he
        · rename_i h3
          simp only [RR.ok.injEq] at he
          have h4 := (sg_nx cf l ext k2 h1.2).1
          omega
        · cases he
  · split at h
    · cases h
    · simp only [Option.some.injEq, RR.ok.injEq] at h
      omega
theorem addz (b j : Nat) : (⟨b, 0, none⟩ : Addr).add j = ⟨b, j, none⟩ := by
  cases j with
  | zero => rfl
  | succ j => simp [Addr.add]
def BrS (cf : ByteArray → (Nat → Bool) × Bool) (l : List Int) (ext : Bool) (B : Nat) (e : Nat → Addr) (bv : Value) (x0 x1 x2 cb rb o n : Nat) (w : World) (res : RR) (m : Nat) (v : Value) (wr : World) : Prop :=
  m ≤ n ∧ ∃ items k g, rdR cf l ext m (.br items) k g o = some res ∧ g ≤ 9 ∧ o ≤ k ∧ items.length ≤ k ∧ OwnT (w.heap.size + 1) v items wr ∧ RdS cf l ext B e bv x0 x1 x2 cb rb k g o wr ∧ ChR B w wr ∧ wr.heap[w.heap.size]? = some (.cells zero9 57 (0, 0))
set_option maxHeartbeats 32000000 in
theorem branch_any {cf : ByteArray → (Nat → Bool) × Bool} {l : List Int} {ext : Bool} {B : Nat} {e : Nat → Addr} {bv : Value} {x0 x1 x2 cb rb n : Nat} (ih : ∀ m, m < n → ReC cf l ext B e bv x0 x1 x2 cb rb m) (k0 g0 o : Nat) (res : RR) (w : World) (h0 : rdR cf l ext n (.br []) k0 g0 o = some res) (hg0 : g0 ≤ 9) (hok0 : o ≤ k0) (hr0 : RdS cf l ext B e bv x0 x1 x2 cb rb k0 g0 o w) :
    Calls Tryz.prog 59 #[.pointer (some ⟨rb, 0, none⟩)] w (RrP cf l ext B e bv x0 x1 x2 cb rb o res w) := by
  obtain ⟨i0, z0, hi, hz0, hz1, hz2, hz3⟩ := re_parts
  have hB : B ≤ w.heap.size := hr0.es.big
  have hrw := hr0.lt.1
  have HS : Hid (BrS cf l ext B e bv x0 x1 x2 cb rb o n w res n (.slice none 0 0) (w.alloc (.cells zero9 57))) := Lib.hid ⟨Nat.le_refl _, [], k0, g0, h0, hg0, hok0, Nat.zero_le _, OwnT.nil _ _, hr0.next ((Below.refl _ _).alloc (Nat.le_refl _) _), (ChR.refl B w).alloc hB _, alloc_last w _⟩
  have HBB := Lib.hid hB
  have IH := Lib.hid ih
  have HI := Lib.hid hi
  have HZ0 := Lib.hid hz0
  have HZ1 := Lib.hid hz1
  have HZ2 := Lib.hid hz2
  have HZ3 := Lib.hid hz3
  have hnb := hr0.cx.nb
  clear hB h0 hg0 hok0 hr0 ih hi hz0 hz1 hz2 hz3 hnb
  unfold zero9 at HS
  go_enter Tryz.func59, Tryz.ntmps59
  go_wp2_with fail
  go_loopg [4] n (fun m v wr => BrS cf l ext B e bv x0 x1 x2 cb rb o n w res m v wr)
  case atStart => exact HS.out
  case round =>
    obtain ⟨hm, items, k, g, hrd, hg, hok, hil, hown, hs, hch, hR⟩ := hrel
    obtain ⟨oa, oc, rfl⟩ := hown.shape
    have hkl := hs.kl
    have hll := hs.cx.len
    have hww : w.heap.size < wr.heap.size := lt_blkB hR
    obtain ⟨lo', hi', ev', j', hr', _, _⟩ := hs.rd
    have HEB := Lib.hid (fun X => endsBranch_any (sg cf l ext k).kd k (ofBys (sg cf l ext k).tx) (sg cf l ext k).nd lo' hi' ev' X)
    have HR' := Lib.hid hr'
    have HC15 := Lib.hid (rdA_at ext x0 x1 x2 (sg cf l ext k).kd k (ofBys (sg cf l ext k).tx) (sg cf l ext k).nd lo' hi' ev' g o)
    have HSD : Hid ((sgA (sg cf l ext k).kd k (ofBys (sg cf l ext k).tx) (sg cf l ext k).nd lo' hi' ev').toList.length = 15) := Lib.hid rfl
    generalize sgA (sg cf l ext k).kd k (ofBys (sg cf l ext k).tx) (sg cf l ext k).nd lo' hi' ev' = D' at HEB HR' HC15 HSD
    have HOW := Lib.hid hown
    have HRS := Lib.hid hs
    have HCH := Lib.hid hch
    have HRR := Lib.hid hR
    clear hr' hown hs hch hR HS
    cases gk with
    | zero => simp [rdR] at hrd
    | succ m =>
    by_cases hE : endsB (sg cf l ext k).kd = true
    · rw [hE] at HEB
      rw [rdR_br, if_pos hE] at hrd
      have HRD := Lib.hid hrd
      clear hrd hE
      go_wp2_with (first | (refine wpList_load_part rfl 63 _ rfl rb 2 rfl _ (rdA ext x0 x1 x2 D' g o) D'.toList (0, 0) _ HR'.out HC15.out Tryz.underlying63 rfl (by rw [HSD.out]; exact sg_size) ?_) | fail)
      refine (HEB.out _).mono ?_
      rintro x w1 ⟨rfl, hb1⟩
      have HR1 := Lib.hid (HRS.out.next hb1)
      have HO1 := Lib.hid (HOW.out.below hb1)
      have HC1 : Hid (ChR B w w1) := Lib.hid (HCH.out.trans (ChR.below hb1 (by have := HBB.out; omega)))
      have HG1 : Hid (w1.heap[w.heap.size]? = some (.cells zero9 57 (0, 0))) := Lib.hid (blk_below HRR.out hb1)
      clear hb1
      by_cases h0 : items = []
      · subst h0
        have HN := Lib.hid (nothing_any cf l ext B e bv x0 x1 x2 cb rb k g o w1 HR1.out)
        have hres : res = .bad (if ext = true ∧ (sg cf l ext k).kd = 3 ∧ o = 0 then 9 else 3) k := by
          have := HRD.out
          rw [if_pos rfl] at this
          exact (Option.some.inj this).symm
        subst hres
        generalize (if ext = true ∧ (sg cf l ext k).kd = 3 ∧ o = 0 then 9 else 3) = cc at *
        simp only [List.length_nil] at *
        go_wp2_with (first | (refine wpList_buildTo rfl 57 _ rfl _ rfl _ z9_built ?_) | fail)
        refine HN.out.mono ?_
        rintro x w2 ⟨b, rfl, he2, hb2⟩
        have HG2 : Hid (w2.heap[w.heap.size]? = some (.cells zero9 57 (0, 0))) := Lib.hid (blk_below HG1.out hb2)
        have HC2 : Hid (ChR B w w2) := Lib.hid (HC1.out.trans (ChR.below hb2 (Nat.le_trans HBB.out HC1.out.bel.size)))
        have HE2 := Lib.hid he2
        clear hb2 he2
        go_wp2_with (first | (refine wpList_store_re rfl _ _ rfl rfl w.heap.size zeroN none 0 0 rfl zero9_v.symm _ HG2.out rfl ?_) | fail)
        exact bodyPost_ret (results_re2 rfl _ _ w.heap.size zeroN nilS _ rfl rfl (setRow_selfR HG2.out _)) rfl ⟨_, b, rfl, HE2.out.setRow HG2.out (by decide) _, HC2.out.setNew (Nat.le_refl _) HBB.out _⟩
      · have hres : res = .ok (joinN 4 items) k g := by
          have := HRD.out
          rw [if_neg h0] at this
          exact (Option.some.inj this).symm
        subst hres
        have hpos : 0 < items.length := List.length_pos_iff.2 h0
        have hq : ((items.length : Int) == 0) = false := by simp; omega
        have HJ := Lib.hid (joined_any 4 (w.heap.size + 1) _ items w1 HO1.out h0 (by omega))
        clear h0
        go_wp2_with fail
        refine HJ.out.mono ?_
        rintro x w2 ⟨ja, jm, jc, rfl, hj, hb2⟩
        have HG2 : Hid (w2.heap[w.heap.size]? = some (.cells zero9 57 (0, 0))) := Lib.hid (blk_below HG1.out hb2)
        have HC2 : Hid (ChR B w w2) := Lib.hid (HC1.out.trans (ChR.below hb2 (Nat.le_trans HBB.out HC1.out.bel.size)))
        have HR2 := Lib.hid (HR1.out.next hb2)
        have HJI := Lib.hid hj
        generalize joinN 4 items = jt at *
        clear hb2 hj
        go_wp2_with (first | (refine wpList_store_re rfl _ _ rfl rfl w.heap.size jt ja jm jc rfl rfl _ HG2.out rfl ?_) | fail)
        exact bodyPost_ret (results_re2 rfl _ _ w.heap.size jt (.slice ja jm jc) _ rfl rfl (setRow_selfR HG2.out _)) rfl ⟨ja, jm, jc, rfl, (HJI.out.kept (fun k hk _ _ => setRow_other _ _ _ _ (by omega))).mono (fun k hk _ => by omega), HR2.out.setRow HG2.out (Or.inl rfl) HBB.out _, HC2.out.setNew (Nat.le_refl _) HBB.out _⟩
    · have hE' : endsB (sg cf l ext k).kd = false := by simpa using hE
      have hnx := sg_gt cf l ext k hkl (fun h5 => by rw [h5] at hE'; cases hE')
      have hnl := (sg_nx cf l ext k hkl).2
      rw [hE'] at HEB
      have HRD := Lib.hid hrd
      have HEE := Lib.hid hE'
      clear hrd hE hE'
      go_wp2_with (first | (refine wpList_load_part rfl 63 _ rfl rb 2 rfl _ (rdA ext x0 x1 x2 D' g o) D'.toList (0, 0) _ HR'.out HC15.out Tryz.underlying63 rfl (by rw [HSD.out]; exact sg_size) ?_) | fail)
      refine (HEB.out _).mono ?_
      rintro x w1 ⟨rfl, hb1⟩
      have HTK := Lib.hid (rtake_any cf l ext B e bv x0 x1 x2 cb rb k g o w1 (HRS.out.next hb1))
      have HC1 : Hid (ChR B wr w1) := Lib.hid (ChR.below hb1 (by have := HBB.out; omega))
      clear hb1
      go_wp2_with fail
      refine HTK.out.mono ?_
      rintro x w2 ⟨lo, hi, ev, j, rfl, hse2, hrd2, hc2⟩
      obtain ⟨D, hD⟩ : ∃ D, D = sgA (sg cf l ext k).kd k (ofBys (sg cf l ext k).tx) (sg cf l ext k).nd lo hi ev := ⟨_, rfl⟩
      have hDs : D.size = 15 := by rw [hD]; rfl
      have hD1 : D.all (·.oneCell') = true := by rw [hD]; exact sgA_one _ _ _ _ _ _ hse2.one
      obtain ⟨W3, hW3⟩ : ∃ W3, W3 = (w2.alloc (.cells zero15 63)).setRow w2.heap.size D := ⟨_, rfl⟩
      have hT2 : (w2.alloc (.cells zero15 63)).heap[w2.heap.size]? = some (.cells zero15 63 (0, 0)) := alloc_last w2 _
      have hb3 : Below w2.heap.size w2 W3 := by rw [hW3]; exact below_setRow ((Below.refl _ _).alloc (Nat.le_refl _) _) (Nat.le_refl _) _
      have hS3 : W3.heap[w2.heap.size]? = some (.cells D 63 (0, 0)) := by rw [hW3]; exact setRow_selfR hT2 _
      have hwr2 : wr.heap.size ≤ w2.heap.size := Nat.le_trans HC1.out.bel.size hc2.bel.size
      have hc3 : ChR B wr W3 := (HC1.out.trans hc2).trans (ChR.below hb3 (by have := HBB.out; omega))
      have hr3 : RdS cf l ext B e bv x0 x1 x2 cb rb j g o W3 := hrd2.next hb3
      have ho3 := HOW.out.kept (hc3.same _)
      have HIB := Lib.hid (isByte_any cf l ext B (w.heap.size + 1) e bv x0 x1 x2 cb rb k j g o W3 hr3 _ items ho3 (by omega) lo hi ev)
      have hse3 : SgE e ext (sg cf l ext k) lo hi ev j W3 := hse2.ch (ChR.below hb3 (by have := HBB.out; omega))
      have HT2 := Lib.hid hT2
      have HW3 := Lib.hid hW3
      have HS3 := Lib.hid hS3
      have HDD := Lib.hid hD
      have HDS := Lib.hid hDs
      have HD1 := Lib.hid hD1
      have HSE3 := Lib.hid hse3
      have HC3 := Lib.hid hc3
      have HR3 := Lib.hid hr3
      have HO3 := Lib.hid ho3
      rw [← hD] at HIB
      rw [← hD]
      clear hD hDs hD1 hW3 hT2 hb3 hS3 hc3 hr3 ho3 hse3 hse2 hrd2 hc2 HTK HR' HC15 HSD HEB
      unfold zero15 at HW3 HT2
      go_upto_region 4 with (first | (refine wpList_store_rowTo rfl 63 _ _ rfl rfl w2.heap.size D rfl rfl _ _ HT2.out (by rw [HDS.out]; exact sg_size) (by rw [HDS.out]; rfl) HD1.out ?_) | fail)
      rw [← HW3.out]
      clear HT2 HW3
      go_wp2_with (first | (refine wpList_load_row rfl 63 _ rfl w2.heap.size rfl _ D (0, 0) _ HS3.out Tryz.underlying63 rfl (by rw [HDS.out]; exact sg_size) ?_) | fail)
      refine HIB.out.mono ?_
      rintro x w4 ⟨rfl, hb4⟩
      have HS4 : Hid (w4.heap[w2.heap.size]? = some (.cells D 63 (0, 0))) := Lib.hid (blk_below HS3.out hb4)
      have HR4 := Lib.hid (HR3.out.next hb4)
      have HC4 : Hid (ChR B wr w4) := Lib.hid (HC3.out.trans (ChR.below hb4 (by have := HC3.out.bel.size; have := HBB.out; omega)))
      have HSE4 : Hid (SgE e ext (sg cf l ext k) lo hi ev j w4) := Lib.hid (HSE3.out.ch (ChR.below hb4 (by have := HC3.out.bel.size; have := HBB.out; omega)))
      have HO4 := Lib.hid (HOW.out.kept (HC4.out.same _))
      clear hb4 HS3 HR3 HC3 HSE3 HO3 HIB
      by_cases hib : isByt ext (sg cf l ext k) (sg cf l ext (sg cf l ext k).nx).kd items = true
      · have her := isByt_er hib
        have hse := HSE4.out
        unfold SgE at hse
        rw [her] at hse
        obtain ⟨rfl, rfl, rfl, rfl⟩ := hse
        rw [hib]
        have HRD2 : Hid (rdR cf l ext m (.br (items ++ [setN (mem (sg cf l ext k).tx)])) (sg cf l ext k).nx g o = some res) := Lib.hid (by
          have := HRD.out
          rw [rdR_br, if_neg (by rw [HEE.out]; decide), if_pos hib] at this
          exact this)
        have htx := sg_tx cf l ext k
        have hbt := sgT_byt HRS.out.cx.by' k
        have hc2 : w4.cell? ⟨w2.heap.size, 2, none⟩ = some (.string (ofBys (sg cf l ext k).tx)) := (Lib.cell_of_heap HS4.out 2).trans (by rw [HDD.out]; rfl)
        rw [htx] at HRD2 hc2
        have hsz : (ofBys (sgT l k)).size ≤ 9223372036854775807 := by
          have := sgT_le l k hkl
          rw [ofBys_size]
          omega
        have HOF : Hid (Calls Tryz.prog 73 #[.string (ofBys (sgT l k))] w4 fun x w' => x = .returned (SV (mem (sgT l k))) ∧ Below w4.heap.size w4 w') := Lib.hid (by
          have := of_any (ofBys (sgT l k)) w4 hsz
          rw [bys_ofBys hbt] at this
          exact this)
        have HSO : ∀ X, Hid (Calls Tryz.prog 55 #[SV (mem (sgT l k))] X fun x w' => x = .returned ((setN (mem (sgT l k))).v nilS) ∧ Below X.heap.size X w') := fun X => Lib.hid (setOf_any _ X)
        have HSOH := Lib.hid HSO
        generalize mem (sgT l k) = pp at *
        clear her hib htx hbt HSO
        go_wp2_with fail
        refine HOF.out.mono ?_
        rintro x w5 ⟨rfl, hb5⟩
        go_wp2_with fail
        refine (HSOH.out _).out.mono ?_
        rintro x w6 ⟨rfl, hb6⟩
        have hb46 : Below w4.heap.size w4 w6 := below_thn hb5 (Nat.le_refl _) hb6
        have hw4 : B ≤ w4.heap.size := by have := HC4.out.bel.size; have := HBB.out; omega
        have hS6 := blk_below HS4.out hb46
        obtain ⟨W7, hW7⟩ : ∃ W7, W7 = w6.setRow w2.heap.size (sgA 0 0 ⟨#[]⟩ (setN pp) 0 0 .nilIface) := ⟨_, rfl⟩
        have hS7 : W7.heap[w2.heap.size]? = some (.cells (sgA 0 0 ⟨#[]⟩ (setN pp) 0 0 .nilIface) 63 (0, 0)) := by rw [hW7]; exact setRow_selfR hS6 _
        have hr7 := (HR4.out.next hb46).setRow hS6 (Or.inr rfl) (by have := HBB.out; omega) (sgA 0 0 ⟨#[]⟩ (setN pp) 0 0 .nilIface)
        have hc7 : ChR B wr W7 := by rw [hW7]; exact (HC4.out.trans (ChR.below hb46 hw4)).setNew hwr2 (by have := HBB.out; omega) _
        rw [← hW7] at hr7
        have HWI := Lib.hid (item_leafQ 0 0 ⟨#[]⟩ (setN pp) 0 0 hr7 (by decide) rfl)
        have HC7 := Lib.hid hc7
        have HS6 := Lib.hid hS6
        have HS7 := Lib.hid hS7
        have HW7 := Lib.hid hW7
        have hk7 : W7.cell? ⟨w2.heap.size, 0, none⟩ = some (.int .i64 0) := (Lib.cell_of_heap hS7 0).trans rfl
        have HVV : Hid ((setN pp).v nilS = .agg #[.int .i64 1, .int .u64 (sw pp 0 : Nat), .int .u64 (sw pp 1 : Nat), .int .u64 (sw pp 2 : Nat), .int .u64 (sw pp 3 : Nat), .int .i64 0, .int .i64 0, .int .i64 0, .slice none 0 0]) := Lib.hid (setN_v pp)
        rw [HVV.out]
        clear hb5 hb6 hb46 hS6 hW7 hS7 hr7 hc7 hc2 hw4 HS4 HR4 HO4 HOF HSOH
        go_upto_region 6 with (first | (refine wpList_store_rowTo rfl 63 _ _ rfl rfl w2.heap.size (sgA 0 0 ⟨#[]⟩ (setN pp) 0 0 .nilIface) rfl rfl _ D HS6.out sg_size (by rw [HDS.out]; rfl) (sgA_one _ _ _ _ _ _ (Or.inl rfl)) ?_; rw [← HW7.out]) | fail)
        go_wp2_with (first | (refine wpList_load_row rfl 63 _ rfl w2.heap.size rfl _ _ (0, 0) _ HS7.out Tryz.underlying63 rfl sg_size ?_) | fail)
        refine HWI.out.mono ?_
        rintro x w8 hp
        clear hk7
        have HC7 := Lib.hid HC7.out
        obtain ⟨ta, tm, tc, rfl, hin8, hrd8, hc8⟩ := hp
        have hw78 := hc8.bel.size
        have hwr7 := HC7.out.bel.size
        have hw8 : B ≤ w8.heap.size := by have := HBB.out; omega
        obtain ⟨W9, hW9⟩ : ∃ W9, W9 = w8.alloc (.cells zero9 57) := ⟨_, rfl⟩
        have hT9 : W9.heap[w8.heap.size]? = some (.cells zero9 57 (0, 0)) := by rw [hW9]; exact alloc_last _ _
        have hb9 : Below w8.heap.size w8 W9 := by rw [hW9]; exact (Below.refl _ _).alloc (Nat.le_refl _) _
        obtain ⟨W10, hW10⟩ : ∃ W10, W10 = W9.setRow w8.heap.size (Nd.cells (setN pp) (.slice ta tm tc)).toArray := ⟨_, rfl⟩
        have hb10 : Below w8.heap.size w8 W10 := by rw [hW10]; exact below_setRow hb9 (Nat.le_refl _) _
        have hT10 : W10.heap[w8.heap.size]? = some (.cells (Nd.cells (setN pp) (.slice ta tm tc)).toArray 57 (0, 0)) := by rw [hW10]; exact setRow_selfR hT9 _
        have hs10 : w8.heap.size < W10.heap.size := lt_blkB hT10
        obtain ⟨W11, hW11⟩ : ∃ W11, W11 = W10.alloc (.cells (Nd.cells (setN pp) (.slice ta tm tc)).toArray 57) := ⟨_, rfl⟩
        have hb11 : Below W10.heap.size W10 W11 := by rw [hW11]; exact (Below.refl _ _).alloc (Nat.le_refl _) _
        have hN11 : W11.heap[W10.heap.size]? = some (.cells (Nd.cells (setN pp) (.slice ta tm tc)).toArray 57 (0, 0)) := by rw [hW11]; exact alloc_last _ _
        have hb811 : Below w8.heap.size w8 W11 := below_thn hb10 (Nat.le_refl _) hb11
        have hc11 : ChR B wr W11 := (HC7.out.trans hc8).trans (ChR.below hb811 hw8)
        have hr11 := hrd8.next hb811
        obtain ⟨xs, hown11, hlay11⟩ := HOW.out.kept (hc11.same _)
        have hi11 : Nd.In W11 (fun b => w.heap.size + 1 ≤ b ∧ (Value.slice oa items.length oc).ownBlock ≠ some b) (setN pp) (.slice ta tm tc) := (hin8.below hb811).mono (fun b hb _ => ⟨by omega, fun hq => by
          obtain ⟨ys, ho', _⟩ := HOW.out
          have := (own_ltB ho' hq).2
          omega⟩)
        have HG11 : Hid (W11.heap[w.heap.size]? = some (.cells zero9 57 (0, 0))) := Lib.hid ((hc11.oth _ _ _ (by decide) (by decide) HRR.out).trans HRR.out)
        have HC11 : Hid (ChR B w W11) := Lib.hid (HCH.out.trans hc11)
        have HR11 := Lib.hid hr11
        have HOX := Lib.hid hown11
        have HLX := Lib.hid hlay11
        have HI11 := Lib.hid hi11
        have HT9 := Lib.hid hT9
        have HT10 := Lib.hid hT10
        have HN11 := Lib.hid hN11
        have HW9 := Lib.hid hW9
        have HW10 := Lib.hid hW10
        have HW11 := Lib.hid hW11
        have hs11 : W10.heap.size < W11.heap.size := lt_blkB hN11
        clear hw8 hW9 hT9 hb9 hW10 hb10 hT10 hW11 hb11 hN11 hb811 hc11 hr11 hown11 hlay11 hi11 hin8 hrd8 hc8
        have HWV : Hid (Nd.v (setN pp) (.slice ta tm tc) = .agg (Nd.cells (setN pp) (.slice ta tm tc)).toArray) := Lib.hid rfl
        rw [HWV.out]
        have HCV := Lib.hid (show Nd.cells (setN pp) (.slice ta tm tc) = Nd.cells (setN pp) (.slice ta tm tc) from rfl)
        unfold zero9 at HW9
        go_upto_region 11 with (first | (rw [← HW9.out]; refine wpList_store_re rfl _ _ rfl rfl w8.heap.size (setN pp) ta tm tc rfl rfl _ HT9.out rfl ?_; rw [← HW10.out]) | fail)
        clear HT9 HW9 HW10 HWV HCV
        unfold Nd.cells at HT10 HW11
        have hW11' := HW11.out
        clear HW11
        subst hW11'
        go_wp2_with (first | (refine wpList_load_row rfl 57 _ rfl w8.heap.size rfl _ _ (0, 0) _ HT10.out Tryz.underlying57 rfl re_size ?_) | (at_builtin; refine wpList_append_own_at _ rfl (.tmp 46) (.tmp 48) 55 rfl (w.heap.size + 1) 57 i0 z0 9 88 Tryz.underlying55 HI.out HZ0.out HZ1.out HZ2.out HZ3.out (by decide) (.slice oa items.length oc) items.length xs rfl HOX.out ⟨W10.heap.size, 0, none⟩ 1 1 (Nd.cells (setN pp) (.slice ta tm tc)) rfl rfl ?hnews ?hone ?h63 ?hby ?hba ?_))
        case hnews => (intro j u hj; rw [addz]; rw [Lib.cell_of_heap HN11.out]; simpa using hj)
        case hone => exact cells_one9 _ _ _ _
        case h63 => (unfold maxLen; omega)
        case hby => omega
        case hba => omega
        intro v' w' ho' hg' _ hv'
        have hob := own_row HOX.out
        have HO12 := Lib.hid (OwnT.snoc HLX.out HI11.out ho' hg' (by simpa using hv'))
        have HR12 := Lib.hid (HR11.out.grown hg' (fun b hb => ⟨by have := (hob b hb).1; have := HBB.out; omega, (hob b hb).2⟩))
        have HC12 := Lib.hid (HC11.out.grown hg' (fun b hb => by have := (hob b hb).1; omega) HBB.out)
        have HG12 : Hid (w'.heap[w.heap.size]? = some (.cells zero9 57 (0, 0))) := Lib.hid (blk_grown HG11.out hg' (fun hb => by have := (hob _ hb).1; omega))
        clear hob ho' hg' hv' HT10 HN11 HOX HLX HI11 HG11 HC11 HR11
        go_wp2_with fail
        go_roundg m
        case measure => omega
        case rel => exact ⟨by omega, items ++ [setN pp], (sg cf l ext k).nx, g, HRD2.out, by omega, by omega, by rw [List.length_append, List.length_singleton]; omega, HO12.out, HR12.out, HC12.out, HG12.out⟩
      · have hib0 : isByt ext (sg cf l ext k) (sg cf l ext (sg cf l ext k).nx).kd items = false := by simpa using hib
        have hibj : isByt ext (sg cf l ext k) (sg cf l ext j).kd items = false := by
          cases hq : isByt ext (sg cf l ext k) (sg cf l ext j).kd items with
          | false => rfl
          | true =>
            have her := isByt_er hq
            have hse := HSE4.out
            unfold SgE at hse
            rw [her] at hse
            obtain ⟨_, _, _, rfl⟩ := hse
            exact absurd hq hib
        rw [hibj]
        have hc0 : w4.cell? ⟨w2.heap.size, 0, none⟩ = some (.int .i64 (sg cf l ext k).kd) := (Lib.cell_of_heap HS4.out 0).trans (by rw [HDD.out]; rfl)
        by_cases h1 : (sg cf l ext k).kd = 1
        · rw [h1] at hc0
          have HRD2 := Lib.hid (show rdR cf l ext (m + 1) (.br items) k g o = some res from HRD.out)
          have hrd2 := HRD.out
          rw [rdR_br, if_neg (by rw [HEE.out]; decide), if_neg hib, if_pos h1] at hrd2
          clear HRD2
          by_cases hp : endsP items = false
          · rw [if_pos hp] at hrd2
            obtain rfl := Option.some.inj hrd2
            have HRP := Lib.hid (rep_no e ext B (w.heap.size + 1) _ items (sg cf l ext k).kd k (ofBys (sg cf l ext k).tx) (sg cf l ext k).nd lo hi ev w4 HR4.out.es HO4.out (by omega) hp)
            rw [← HDD.out] at HRP
            clear hrd2 hp h1 hib hib0 hibj
            go_wp2_with (first | (refine wpList_load_row rfl 63 _ rfl w2.heap.size rfl _ D (0, 0) _ HS4.out Tryz.underlying63 rfl (by rw [HDS.out]; exact sg_size) ?_) | fail)
            refine HRP.out.mono ?_
            rintro x w5 ⟨b, rfl, he5, hb5⟩
            have HE5 := Lib.hid he5
            have HC5 : Hid (ChR B wr w5) := Lib.hid (HC4.out.trans (ChR.below hb5 (by have := HC4.out.bel.size; have := HBB.out; omega)))
            clear he5 hb5 hc0
            have HG5 : Hid (w5.heap[w.heap.size]? = some (.cells zero9 57 (0, 0))) := Lib.hid ((HC5.out.oth _ _ _ (by decide) (by decide) HRR.out).trans HRR.out)
            have HCF : Hid (ChR B w w5) := Lib.hid (HCH.out.trans HC5.out)
            go_wp2_with (first | (refine wpList_buildTo rfl 57 _ rfl _ rfl _ z9_built ?_) | (refine wpList_store_re rfl _ _ rfl rfl w.heap.size zeroN none 0 0 rfl zero9_v.symm _ HG5.out rfl ?_) | fail)
            exact bodyPost_ret (results_re2 rfl _ _ w.heap.size zeroN nilS _ rfl rfl (setRow_selfR HG5.out _)) rfl ⟨_, b, rfl, HE5.out.setRow HG5.out (by decide) _, HCF.out.setNew (Nat.le_refl _) HBB.out _⟩
          · have hp' : endsP items = true := by simpa using hp
            rw [if_neg hp] at hrd2
            cases her : (sg cf l ext k).er with
            | some cp =>
              obtain ⟨c, p⟩ := cp
              rw [her] at hrd2
              obtain rfl := Option.some.inj hrd2
              have hse := HSE4.out
              unfold SgE at hse
              rw [her] at hse
              obtain ⟨⟨U, b, rfl⟩, hq⟩ := hse
              have HRP := Lib.hid (rep_err (w.heap.size + 1) _ items (sg cf l ext k).kd k (ofBys (sg cf l ext k).tx) (sg cf l ext k).nd lo hi U b w4 HO4.out (by omega) hp')
              rw [← HDD.out] at HRP
              have HQ := Lib.hid hq
              clear hrd2 hp hp' h1 hib hib0 hibj hq her
              go_wp2_with (first | (refine wpList_load_row rfl 63 _ rfl w2.heap.size rfl _ D (0, 0) _ HS4.out Tryz.underlying63 rfl (by rw [HDS.out]; exact sg_size) ?_) | fail)
              refine HRP.out.mono ?_
              rintro x w5 ⟨rfl, hb5⟩
              have HE5 := Lib.hid (HQ.out.below hb5)
              have HC5 : Hid (ChR B wr w5) := Lib.hid (HC4.out.trans (ChR.below hb5 (by have := HC4.out.bel.size; have := HBB.out; omega)))
              clear hb5 hc0
              have HG5 : Hid (w5.heap[w.heap.size]? = some (.cells zero9 57 (0, 0))) := Lib.hid ((HC5.out.oth _ _ _ (by decide) (by decide) HRR.out).trans HRR.out)
              have HCF : Hid (ChR B w w5) := Lib.hid (HCH.out.trans HC5.out)
              go_wp2_with (first | (refine wpList_buildTo rfl 57 _ rfl _ rfl _ z9_built ?_) | (refine wpList_store_re rfl _ _ rfl rfl w.heap.size zeroN none 0 0 rfl zero9_v.symm _ HG5.out rfl ?_) | fail)
              exact bodyPost_ret (results_re2 rfl _ _ w.heap.size zeroN nilS _ rfl rfl (setRow_selfR HG5.out _)) rfl ⟨_, b, rfl, HE5.out.setRow HG5.out (by decide) _, HCF.out.setNew (Nat.le_refl _) HBB.out _⟩
            | none =>
              rw [her] at hrd2
              have hse := HSE4.out
              unfold SgE at hse
              rw [her] at hse
              obtain ⟨rfl, rfl, rfl, rfl⟩ := hse
              have HRP := Lib.hid (rep_yes (w.heap.size + 1) _ items (sg cf l ext k).kd k (ofBys (sg cf l ext k).tx) (sg cf l ext k).nd (sg cf l ext k).lo (sg cf l ext k).hi w4 HO4.out (by omega) hp')
              rw [← HDD.out] at HRP
              have HRD2 := Lib.hid hrd2
              have HRL : Hid ((repL items (sg cf l ext k).lo (sg cf l ext k).hi).length = items.length) := Lib.hid (by
                obtain ⟨r, x, rfl⟩ : ∃ r x, items = r ++ [x] := ⟨items.dropLast, items.getLast (endsP_ne hp'), (List.dropLast_concat_getLast (endsP_ne hp')).symm⟩
                rw [repL_snoc]
                simp)
              clear hrd2 hp hp' h1 hib hib0 hibj her
              go_wp2_with (first | (refine wpList_load_row rfl 63 _ rfl w2.heap.size rfl _ D (0, 0) _ HS4.out Tryz.underlying63 rfl (by rw [HDS.out]; exact sg_size) ?_) | fail)
              refine HRP.out.mono ?_
              rintro x w5 ⟨rfl, ho5, hg5⟩
              have hob : ∀ b, (Value.slice oa items.length oc).ownBlock = some b → w.heap.size + 1 ≤ b ∧ ∃ cs, w4.heap[b]? = some (.cells cs 57 (0, 0)) := by
                obtain ⟨xs, h1, _⟩ := HO4.out
                exact own_row h1
              have HO5 := Lib.hid ho5
              have HR5 := Lib.hid (HR4.out.grown hg5 (fun b hb => ⟨by have := (hob b hb).1; have := HBB.out; omega, (hob b hb).2⟩))
              have HC5 : Hid (ChR B w w5) := Lib.hid ((HCH.out.trans HC4.out).grown hg5 (fun b hb => by have := (hob b hb).1; omega) HBB.out)
              have HG5 : Hid (w5.heap[w.heap.size]? = some (.cells zero9 57 (0, 0))) := Lib.hid (blk_grown ((HC4.out.oth _ _ _ (by decide) (by decide) HRR.out).trans HRR.out) hg5 (fun hb => by have := (hob _ hb).1; omega))
              clear hob ho5 hg5 hc0
              go_wp2_with fail
              go_roundg m
              case measure => omega
              case rel => exact ⟨by omega, _, _, _, HRD2.out, hg, by omega, by rw [HRL.out]; omega, by have := HO5.out; exact this, HR5.out, HC5.out, HG5.out⟩
        · obtain ⟨r0, hit, hres⟩ := rdR_item HEE.out hib0 h1 HRD.out
          have HWI := Lib.hid (ritem_any (IH.out m (by omega)) k j g o lo hi ev r0 w4 hg hok hkl HEE.out h1 HSE4.out HR4.out hit)
          have e1 : (((sg cf l ext k).kd : Int) == 1) = false := by simp; omega
          have HIT := Lib.hid hit
          have HRE := Lib.hid hres
          have HC7 := Lib.hid HC4.out
          rw [← HDD.out] at HWI
          generalize hkd : (sg cf l ext k).kd = kd at hc0 e1
          clear hit hres h1 hib hib0 hibj hkd
          go_wp2_with (first | (refine wpList_load_row rfl 63 _ rfl w2.heap.size rfl _ D (0, 0) _ HS4.out Tryz.underlying63 rfl (by rw [HDS.out]; exact sg_size) ?_) | fail)
          refine HWI.out.mono ?_
          rintro x w8 hp
          clear hc0 e1
          cases r0 with
          | bad c p =>
            obtain ⟨y, U, b, rfl, he8, hc8⟩ := hp
            have hrr : res = .bad c p := HRE.out
            subst hrr
            have hw8 : B ≤ w8.heap.size := by have := hc8.bel.size; have := HC4.out.bel.size; have := HBB.out; omega
            have hww8 : w.heap.size < w8.heap.size := by have := hc8.bel.size; have := HC4.out.bel.size; omega
            obtain ⟨W9, hW9⟩ : ∃ W9, W9 = w8.alloc (.cells zero9 57) := ⟨_, rfl⟩
            have hT9 : W9.heap[w8.heap.size]? = some (.cells zero9 57 (0, 0)) := by rw [hW9]; exact alloc_last _ _
            have hb9 : Below w8.heap.size w8 W9 := by rw [hW9]; exact (Below.refl _ _).alloc (Nat.le_refl _) _
            obtain ⟨W10, hW10⟩ : ∃ W10, W10 = W9.setRow w8.heap.size (y.cells (.slice none 0 0)).toArray := ⟨_, rfl⟩
            have hb10 : Below w8.heap.size w8 W10 := by rw [hW10]; exact below_setRow hb9 (Nat.le_refl _) _
            have hc10 : ChR B wr W10 := (HC7.out.trans hc8).trans (ChR.below hb10 hw8)
            have HG10 : Hid (W10.heap[w.heap.size]? = some (.cells zero9 57 (0, 0))) := Lib.hid ((hc10.oth _ _ _ (by decide) (by decide) HRR.out).trans HRR.out)
            have HC10 : Hid (ChR B w W10) := Lib.hid (HCH.out.trans hc10)
            have HE10 := Lib.hid (he8.below hb10)
            have HT9 := Lib.hid hT9
            have HW9 := Lib.hid hW9
            have HW10 := Lib.hid hW10
            have HWV : Hid (Nd.v y nilS = .agg (y.cells (.slice none 0 0)).toArray) := Lib.hid rfl
            clear hw8 hww8 hW9 hT9 hb9 hW10 hb10 hc10 he8 hc8
            unfold zero9 at HW9
            go_upto_region 11 with (first | (rw [← HW9.out]; refine wpList_store_re rfl _ _ rfl rfl w8.heap.size y none 0 0 rfl rfl _ HT9.out rfl ?_; rw [← HW10.out]) | fail)
            go_wp2_with (first | (refine wpList_buildTo rfl 57 _ rfl _ rfl _ z9_built ?_) | (refine wpList_store_re rfl _ _ rfl rfl w.heap.size zeroN none 0 0 rfl zero9_v.symm _ HG10.out rfl ?_) | fail)
            exact bodyPost_ret (results_re2 rfl _ _ w.heap.size zeroN nilS _ rfl rfl (setRow_selfR HG10.out _)) rfl ⟨_, b, rfl, HE10.out.setRow HG10.out (by decide) _, HC10.out.setNew (Nat.le_refl _) HBB.out _⟩
          | ok tt k1 g1 =>
            have hgt := itR_ok HIT.out hkl hg HEE.out
            have HRD2 : Hid (rdR cf l ext m (.br (items ++ [tt])) k1 g1 o = some res) := Lib.hid HRE.out
            obtain ⟨ta, tm, tc, rfl, hin8, hrd8, hc8⟩ := hp
            have hw78 := hc8.bel.size
            have hwr7 := HC7.out.bel.size
            have hw8 : B ≤ w8.heap.size := by have := HBB.out; omega
            obtain ⟨W9, hW9⟩ : ∃ W9, W9 = w8.alloc (.cells zero9 57) := ⟨_, rfl⟩
            have hT9 : W9.heap[w8.heap.size]? = some (.cells zero9 57 (0, 0)) := by rw [hW9]; exact alloc_last _ _
            have hb9 : Below w8.heap.size w8 W9 := by rw [hW9]; exact (Below.refl _ _).alloc (Nat.le_refl _) _
            obtain ⟨W10, hW10⟩ : ∃ W10, W10 = W9.setRow w8.heap.size (Nd.cells (tt) (.slice ta tm tc)).toArray := ⟨_, rfl⟩
            have hb10 : Below w8.heap.size w8 W10 := by rw [hW10]; exact below_setRow hb9 (Nat.le_refl _) _
            have hT10 : W10.heap[w8.heap.size]? = some (.cells (Nd.cells (tt) (.slice ta tm tc)).toArray 57 (0, 0)) := by rw [hW10]; exact setRow_selfR hT9 _
            have hs10 : w8.heap.size < W10.heap.size := lt_blkB hT10
            obtain ⟨W11, hW11⟩ : ∃ W11, W11 = W10.alloc (.cells (Nd.cells (tt) (.slice ta tm tc)).toArray 57) := ⟨_, rfl⟩
            have hb11 : Below W10.heap.size W10 W11 := by rw [hW11]; exact (Below.refl _ _).alloc (Nat.le_refl _) _
            have hN11 : W11.heap[W10.heap.size]? = some (.cells (Nd.cells (tt) (.slice ta tm tc)).toArray 57 (0, 0)) := by rw [hW11]; exact alloc_last _ _
            have hb811 : Below w8.heap.size w8 W11 := below_thn hb10 (Nat.le_refl _) hb11
            have hc11 : ChR B wr W11 := (HC7.out.trans hc8).trans (ChR.below hb811 hw8)
            have hr11 := hrd8.next hb811
            obtain ⟨xs, hown11, hlay11⟩ := HOW.out.kept (hc11.same _)
            have hi11 : Nd.In W11 (fun b => w.heap.size + 1 ≤ b ∧ (Value.slice oa items.length oc).ownBlock ≠ some b) (tt) (.slice ta tm tc) := (hin8.below hb811).mono (fun b hb _ => ⟨by omega, fun hq => by
              obtain ⟨ys, ho', _⟩ := HOW.out
              have := (own_ltB ho' hq).2
              omega⟩)
            have HG11 : Hid (W11.heap[w.heap.size]? = some (.cells zero9 57 (0, 0))) := Lib.hid ((hc11.oth _ _ _ (by decide) (by decide) HRR.out).trans HRR.out)
            have HC11 : Hid (ChR B w W11) := Lib.hid (HCH.out.trans hc11)
            have HR11 := Lib.hid hr11
            have HOX := Lib.hid hown11
            have HLX := Lib.hid hlay11
            have HI11 := Lib.hid hi11
            have HT9 := Lib.hid hT9
            have HT10 := Lib.hid hT10
            have HN11 := Lib.hid hN11
            have HW9 := Lib.hid hW9
            have HW10 := Lib.hid hW10
            have HW11 := Lib.hid hW11
            have hs11 : W10.heap.size < W11.heap.size := lt_blkB hN11
            clear hw8 hW9 hT9 hb9 hW10 hb10 hT10 hW11 hb11 hN11 hb811 hc11 hr11 hown11 hlay11 hi11 hin8 hrd8 hc8
            have HWV : Hid (Nd.v (tt) (.slice ta tm tc) = .agg (Nd.cells (tt) (.slice ta tm tc)).toArray) := Lib.hid rfl
            rw [HWV.out]
            have HCV := Lib.hid (show Nd.cells (tt) (.slice ta tm tc) = Nd.cells (tt) (.slice ta tm tc) from rfl)
            unfold zero9 at HW9
            go_upto_region 11 with (first | (rw [← HW9.out]; refine wpList_store_re rfl _ _ rfl rfl w8.heap.size (tt) ta tm tc rfl rfl _ HT9.out rfl ?_; rw [← HW10.out]) | fail)
            clear HT9 HW9 HW10 HWV HCV
            unfold Nd.cells at HT10 HW11
            have hW11' := HW11.out
            clear HW11
            subst hW11'
            go_wp2_with (first | (refine wpList_load_row rfl 57 _ rfl w8.heap.size rfl _ _ (0, 0) _ HT10.out Tryz.underlying57 rfl re_size ?_) | (at_builtin; refine wpList_append_own_at _ rfl (.tmp 46) (.tmp 48) 55 rfl (w.heap.size + 1) 57 i0 z0 9 88 Tryz.underlying55 HI.out HZ0.out HZ1.out HZ2.out HZ3.out (by decide) (.slice oa items.length oc) items.length xs rfl HOX.out ⟨W10.heap.size, 0, none⟩ 1 1 (Nd.cells (tt) (.slice ta tm tc)) rfl rfl ?hnews ?hone ?h63 ?hby ?hba ?_))
            case hnews => (intro j u hj; rw [addz]; rw [Lib.cell_of_heap HN11.out]; simpa using hj)
            case hone => exact cells_one9 _ _ _ _
            case h63 => (unfold maxLen; omega)
            case hby => omega
            case hba => omega
            intro v' w' ho' hg' _ hv'
            have hob := own_row HOX.out
            have HO12 := Lib.hid (OwnT.snoc HLX.out HI11.out ho' hg' (by simpa using hv'))
            have HR12 := Lib.hid (HR11.out.grown hg' (fun b hb => ⟨by have := (hob b hb).1; have := HBB.out; omega, (hob b hb).2⟩))
            have HC12 := Lib.hid (HC11.out.grown hg' (fun b hb => by have := (hob b hb).1; omega) HBB.out)
            have HG12 : Hid (w'.heap[w.heap.size]? = some (.cells zero9 57 (0, 0))) := Lib.hid (blk_grown HG11.out hg' (fun hb => by have := (hob _ hb).1; omega))
            clear hob ho' hg' hv' HT10 HN11 HOX HLX HI11 HG11 HC11 HR11
            go_wp2_with fail
            go_roundg m
            case measure => omega
            case rel => exact ⟨by omega, items ++ [tt], k1, g1, HRD2.out, by omega, by omega, by rw [List.length_append, List.length_singleton]; omega, HO12.out, HR12.out, HC12.out, HG12.out⟩
def BrC (cf : ByteArray → (Nat → Bool) × Bool) (l : List Int) (ext : Bool) (B : Nat) (e : Nat → Addr) (bv : Value) (x0 x1 x2 cb rb n : Nat) : Prop :=
  ∀ k g o r W, rdR cf l ext n (.br []) k g o = some r → g ≤ 9 → o ≤ k → RdS cf l ext B e bv x0 x1 x2 cb rb k g o W → Calls Tryz.prog 59 #[.pointer (some ⟨rb, 0, none⟩)] W (RrP cf l ext B e bv x0 x1 x2 cb rb o r W)
def ReS (cf : ByteArray → (Nat → Bool) × Bool) (l : List Int) (ext : Bool) (B : Nat) (e : Nat → Addr) (bv : Value) (x0 x1 x2 cb rb o n : Nat) (w : World) (res : RR) (m : Nat) (v : Value) (wr : World) : Prop :=
  m ≤ n ∧ ∃ bs k g, rdR cf l ext m (.re bs) k g o = some res ∧ g ≤ 9 ∧ o ≤ k ∧ bs.length ≤ k ∧ OwnT (w.heap.size + 1) v bs wr ∧ RdS cf l ext B e bv x0 x1 x2 cb rb k g o wr ∧ ChR B w wr ∧ wr.heap[w.heap.size]? = some (.cells zero9 57 (0, 0))
set_option maxHeartbeats 3200000 in
theorem re_any {cf : ByteArray → (Nat → Bool) × Bool} {l : List Int} {ext : Bool} {B : Nat} {e : Nat → Addr} {bv : Value} {x0 x1 x2 cb rb n : Nat} (ih : ∀ m, m < n → BrC cf l ext B e bv x0 x1 x2 cb rb m) (k0 g0 o : Nat) (res : RR) (w : World) (h0 : rdR cf l ext n (.re []) k0 g0 o = some res) (hg0 : g0 ≤ 9) (hok0 : o ≤ k0) (hr0 : RdS cf l ext B e bv x0 x1 x2 cb rb k0 g0 o w) :
    Calls Tryz.prog 35 #[.pointer (some ⟨rb, 0, none⟩)] w (RrP cf l ext B e bv x0 x1 x2 cb rb o res w) := by
  obtain ⟨i0, z0, hi, hz0, hz1, hz2, hz3⟩ := re_parts
  have hB : B ≤ w.heap.size := hr0.es.big
  have hrw := hr0.lt.1
  have HS : Hid (ReS cf l ext B e bv x0 x1 x2 cb rb o n w res n (.slice none 0 0) (w.alloc (.cells zero9 57))) := Lib.hid ⟨Nat.le_refl _, [], k0, g0, h0, hg0, hok0, Nat.zero_le _, OwnT.nil _ _, hr0.next ((Below.refl _ _).alloc (Nat.le_refl _) _), (ChR.refl B w).alloc hB _, alloc_last w _⟩
  have HBB := Lib.hid hB
  have IH := Lib.hid ih
  have HI := Lib.hid hi
  have HZ0 := Lib.hid hz0
  have HZ1 := Lib.hid hz1
  have HZ2 := Lib.hid hz2
  have HZ3 := Lib.hid hz3
  clear hB h0 hg0 hok0 hr0 ih hi hz0 hz1 hz2 hz3
  unfold zero9 at HS
  go_enter Tryz.func35, Tryz.ntmps35
  go_wp2_with fail
  go_loopg [4] n (fun m v wr => ReS cf l ext B e bv x0 x1 x2 cb rb o n w res m v wr)
  case atStart => exact HS.out
  case round =>
    obtain ⟨hm, bs, k, g, hrd, hg, hok, hil, hown, hs, hch, hR⟩ := hrel
    obtain ⟨oa, oc, rfl⟩ := hown.shape
    have hkl := hs.kl
    have hll := hs.cx.len
    have hww : w.heap.size < wr.heap.size := lt_blkB hR
    have HOW := Lib.hid hown
    have HRS := Lib.hid hs
    have HCH := Lib.hid hch
    have HRR := Lib.hid hR
    cases gk with
    | zero => simp [rdR] at hrd
    | succ m =>
    rw [rdR_re] at hrd
    cases hr0 : rdR cf l ext m (.br []) k g o with
    | none => rw [hr0] at hrd; cases hrd
    | some r0 =>
    have HWI := Lib.hid (IH.out m (by omega) k g o r0 wr hr0 hg hok hs)
    rw [hr0] at hrd
    clear hown hs hch hR HS
    go_wp2_with fail
    refine HWI.out.mono ?_
    rintro x w8 hp
    cases r0 with
    | bad c p =>
      obtain ⟨U, b, rfl, he8, hc8⟩ := hp
      obtain rfl := Option.some.inj hrd
      have hw8 : B ≤ w8.heap.size := by have := hc8.bel.size; have := HBB.out; omega
      have hww8 : w.heap.size < w8.heap.size := by have := hc8.bel.size; omega
      obtain ⟨W9, hW9⟩ : ∃ W9, W9 = w8.alloc (.cells zero9 57) := ⟨_, rfl⟩
      have hT9 : W9.heap[w8.heap.size]? = some (.cells zero9 57 (0, 0)) := by rw [hW9]; exact alloc_last _ _
      have hb9 : Below w8.heap.size w8 W9 := by rw [hW9]; exact (Below.refl _ _).alloc (Nat.le_refl _) _
      obtain ⟨W10, hW10⟩ : ∃ W10, W10 = W9.setRow w8.heap.size (zeroN.cells (.slice none 0 0)).toArray := ⟨_, rfl⟩
      have hb10 : Below w8.heap.size w8 W10 := by rw [hW10]; exact below_setRow hb9 (Nat.le_refl _) _
      have hc10 : ChR B wr W10 := hc8.trans (ChR.below hb10 hw8)
      have HG10 : Hid (W10.heap[w.heap.size]? = some (.cells zero9 57 (0, 0))) := Lib.hid ((hc10.oth _ _ _ (by decide) (by decide) HRR.out).trans HRR.out)
      have HC10 : Hid (ChR B w W10) := Lib.hid (HCH.out.trans hc10)
      have HE10 := Lib.hid (he8.below hb10)
      have HT9 := Lib.hid hT9
      have HW9 := Lib.hid hW9
      have HW10 := Lib.hid hW10
      clear hw8 hww8 hW9 hT9 hb9 hW10 hb10 hc10 he8 hc8 hr0
      unfold zero9 at HW9
      rw [zero9_v]
      unfold zero9
      go_upto_region 3 with (first | (rw [← HW9.out]; refine wpList_store_re rfl _ _ rfl rfl w8.heap.size zeroN none 0 0 rfl zero9_v.symm _ HT9.out rfl ?_; rw [← HW10.out]) | fail)
      go_wp2_with (first | (refine wpList_buildTo rfl 57 _ rfl _ rfl _ z9_built ?_) | (refine wpList_store_re rfl _ _ rfl rfl w.heap.size zeroN none 0 0 rfl zero9_v.symm _ HG10.out rfl ?_) | fail)
      exact bodyPost_ret (results_re2 rfl _ _ w.heap.size zeroN nilS _ rfl rfl (setRow_selfR HG10.out _)) rfl ⟨_, b, rfl, HE10.out.setRow HG10.out (by decide) _, HC10.out.setNew (Nat.le_refl _) HBB.out _⟩
    | ok tt k1 g1 =>
      dsimp only at hrd
      have hle := rdR_le _ _ _ _ _ _ _ _ _ _ _ hr0 hkl
      have hg1 := (rdR_kd _ _ _ _ _ _ _ _ _ _ _ hr0 (fun x hx => by cases hx) hg).2
      obtain ⟨ta, tm, tc, rfl, hin8, hrd8, hc8⟩ := hp
      have hw78 := hc8.bel.size
      have hw8 : B ≤ w8.heap.size := by have := HBB.out; omega
      obtain ⟨W9, hW9⟩ : ∃ W9, W9 = w8.alloc (.cells zero9 57) := ⟨_, rfl⟩
      have hT9 : W9.heap[w8.heap.size]? = some (.cells zero9 57 (0, 0)) := by rw [hW9]; exact alloc_last _ _
      have hb9 : Below w8.heap.size w8 W9 := by rw [hW9]; exact (Below.refl _ _).alloc (Nat.le_refl _) _
      obtain ⟨W10, hW10⟩ : ∃ W10, W10 = W9.setRow w8.heap.size (tt.cells (.slice ta tm tc)).toArray := ⟨_, rfl⟩
      have hb10 : Below w8.heap.size w8 W10 := by rw [hW10]; exact below_setRow hb9 (Nat.le_refl _) _
      have hT10 : W10.heap[w8.heap.size]? = some (.cells (tt.cells (.slice ta tm tc)).toArray 57 (0, 0)) := by rw [hW10]; exact setRow_selfR hT9 _
      have hs10 : w8.heap.size < W10.heap.size := lt_blkB hT10
      obtain ⟨W11, hW11⟩ : ∃ W11, W11 = W10.alloc (.cells (tt.cells (.slice ta tm tc)).toArray 57) := ⟨_, rfl⟩
      have hb11 : Below W10.heap.size W10 W11 := by rw [hW11]; exact (Below.refl _ _).alloc (Nat.le_refl _) _
      have hN11 : W11.heap[W10.heap.size]? = some (.cells (tt.cells (.slice ta tm tc)).toArray 57 (0, 0)) := by rw [hW11]; exact alloc_last _ _
      have hb811 : Below w8.heap.size w8 W11 := below_thn hb10 (Nat.le_refl _) hb11
      have hc11 : ChR B wr W11 := hc8.trans (ChR.below hb811 hw8)
      have hr11 := hrd8.next hb811
      obtain ⟨xs, hown11, hlay11⟩ := HOW.out.kept (hc11.same _)
      have hi11 : tt.In W11 (fun b => w.heap.size + 1 ≤ b ∧ (Value.slice oa bs.length oc).ownBlock ≠ some b) (.slice ta tm tc) := (hin8.below hb811).mono (fun b hb _ => ⟨by omega, fun hq => by
        obtain ⟨ys, ho', _⟩ := HOW.out
        have := (own_ltB ho' hq).2
        omega⟩)
      have HG11 : Hid (W11.heap[w.heap.size]? = some (.cells zero9 57 (0, 0))) := Lib.hid ((hc11.oth _ _ _ (by decide) (by decide) HRR.out).trans HRR.out)
      have HC11 : Hid (ChR B w W11) := Lib.hid (HCH.out.trans hc11)
      have HR11 := Lib.hid hr11
      have HOX := Lib.hid hown11
      have HLX := Lib.hid hlay11
      have HI11 := Lib.hid hi11
      have HT9 := Lib.hid hT9
      have HT10 := Lib.hid hT10
      have HN11 := Lib.hid hN11
      have HW9 := Lib.hid hW9
      have HW10 := Lib.hid hW10
      have HW11 := Lib.hid hW11
      have hs11 : W10.heap.size < W11.heap.size := lt_blkB hN11
      have HRD := Lib.hid hrd
      clear hw8 hW9 hT9 hb9 hW10 hb10 hT10 hW11 hb11 hN11 hb811 hc11 hr11 hown11 hlay11 hi11 hin8 hrd8 hc8 hr0 hrd
      have HWV : Hid (tt.v (.slice ta tm tc) = .agg (tt.cells (.slice ta tm tc)).toArray) := Lib.hid rfl
      rw [HWV.out]
      unfold zero9 at HW9
      go_upto_region 3 with (first | (rw [← HW9.out]; refine wpList_store_re rfl _ _ rfl rfl w8.heap.size tt ta tm tc rfl rfl _ HT9.out rfl ?_; rw [← HW10.out]) | fail)
      clear HT9 HW9 HW10 HWV
      unfold Nd.cells at HT10 HW11
      have hW11' := HW11.out
      clear HW11
      subst hW11'
      go_upto_region 6 with (first | (refine wpList_load_row rfl 57 _ rfl w8.heap.size rfl _ _ (0, 0) _ HT10.out Tryz.underlying57 rfl re_size ?_) | (at_builtin; refine wpList_append_own_at _ rfl (.tmp 16) (.tmp 18) 55 rfl (w.heap.size + 1) 57 i0 z0 9 88 Tryz.underlying55 HI.out HZ0.out HZ1.out HZ2.out HZ3.out (by decide) (.slice oa bs.length oc) bs.length xs rfl HOX.out ⟨W10.heap.size, 0, none⟩ 1 1 (tt.cells (.slice ta tm tc)) rfl rfl ?hnews ?hone ?h63 ?hby ?hba ?_))
      case hnews => (intro j u hj; rw [addz]; rw [Lib.cell_of_heap HN11.out]; simpa using hj)
      case hone => exact cells_one9 _ _ _ _
      case h63 => (unfold maxLen; omega)
      case hby => omega
      case hba => omega
      intro v' w' ho' hg' _ hv'
      have hob := own_row HOX.out
      have ho12 := OwnT.snoc HLX.out HI11.out ho' hg' (by simpa using hv')
      have hl1 : (bs ++ [tt]).length = bs.length + 1 := by simp
      obtain ⟨va, vc, hva⟩ := ho12.shape
      rw [hl1] at hva
      subst hva
      have HO12 := Lib.hid ho12
      have hr12 := HR11.out.grown hg' (fun b hb => ⟨by have := (hob b hb).1; have := HBB.out; omega, (hob b hb).2⟩)
      have HR12 := Lib.hid hr12
      have HC12 := Lib.hid (HC11.out.grown hg' (fun b hb => by have := (hob b hb).1; omega) HBB.out)
      have HG12 : Hid (w'.heap[w.heap.size]? = some (.cells zero9 57 (0, 0))) := Lib.hid (blk_grown HG11.out hg' (fun hb => by have := (hob _ hb).1; omega))
      have hww' := lt_blkB HG12.out
      obtain ⟨_, c2, _, _, _, _, _⟩ := hr12.cells
      have hrl := hr12.lt.1
      have HTK := Lib.hid (rtake_any cf l ext B e bv x0 x1 x2 cb rb k1 g1 o w' hr12)
      clear hob ho' hg' hv' ho12 HT10 HN11 HOX HLX HI11 HG11 HC11 HR11 hr12
      by_cases h4 : (sg cf l ext k1).kd = 4
      · have HRD2 : Hid (rdR cf l ext m (.re (bs ++ [tt])) (sg cf l ext k1).nx g1 o = some res) := Lib.hid (by
          have := HRD.out
          rw [if_pos h4] at this
          exact this)
        have HNE : Hid ((sg cf l ext k1).er = none) := Lib.hid (sg_no_er cf l ext k1 (by omega) (by omega))
        have hgt := sg_gt cf l ext k1 hle.2 (by omega)
        rw [h4] at c2
        clear h4
        go_wp2_with fail
        refine HTK.out.mono ?_
        rintro x w13 ⟨lo, hi, ev, jj, rfl, hse, hrd13, hc13⟩
        have hjj : jj = (sg cf l ext k1).nx := by
          unfold SgE at hse
          rw [HNE.out] at hse
          exact hse.2.2.2
        subst hjj
        have HO13 := Lib.hid (HO12.out.kept (hc13.same _))
        have HR13 := Lib.hid hrd13
        have HC13 := Lib.hid (HC12.out.trans hc13)
        have HG13 : Hid (w13.heap[w.heap.size]? = some (.cells zero9 57 (0, 0))) := Lib.hid ((hc13.oth _ _ _ (by decide) (by decide) HG12.out).trans HG12.out)
        clear hse hrd13 hc13 c2
        go_wp2_with fail
        go_roundg m
        case measure => omega
        case rel => exact ⟨by omega, bs ++ [tt], (sg cf l ext k1).nx, g1, HRD2.out, hg1, by omega, by rw [List.length_append, List.length_singleton]; omega, HO13.out, HR13.out, HC13.out, HG13.out⟩
      · have hres : res = .ok (joinN 5 (bs ++ [tt])) k1 g1 := by
          have := HRD.out
          rw [if_neg h4] at this
          exact (Option.some.inj this).symm
        subst hres
        have e4 : (((sg cf l ext k1).kd : Int) == 4) = false := by simp; omega
        have e4' : (((sg cf l ext k1).kd : Int) != 4) = true := by simp; omega
        have HJ := Lib.hid (joined_any 5 (w.heap.size + 1) (.slice va (bs.length + 1) vc) (bs ++ [tt]) w' HO12.out (by simp) (by rw [hl1]; omega))
        clear hl1
        generalize (sg cf l ext k1).kd = kk at c2 e4 e4'
        clear h4
        go_wp2_with fail
        refine HJ.out.mono ?_
        rintro x w2 ⟨ja, jm, jc, rfl, hj, hb2⟩
        have HG2 : Hid (w2.heap[w.heap.size]? = some (.cells zero9 57 (0, 0))) := Lib.hid (blk_below HG12.out hb2)
        have HC2 : Hid (ChR B w w2) := Lib.hid (HC12.out.trans (ChR.below hb2 (Nat.le_trans HBB.out HC12.out.bel.size)))
        have HR2 := Lib.hid (HR12.out.next hb2)
        have HJI := Lib.hid hj
        generalize joinN 5 (bs ++ [tt]) = jt at *
        clear hb2 hj
        go_wp2_with (first | (refine wpList_store_re rfl _ _ rfl rfl w.heap.size jt ja jm jc rfl rfl _ HG2.out rfl ?_) | fail)
        exact bodyPost_ret (results_re2 rfl _ _ w.heap.size jt (.slice ja jm jc) _ rfl rfl (setRow_selfR HG2.out _)) rfl ⟨ja, jm, jc, rfl, (HJI.out.kept (fun k hk _ _ => setRow_other _ _ _ _ (by omega))).mono (fun k hk _ => by omega), HR2.out.setRow HG2.out (Or.inl rfl) HBB.out _, HC2.out.setNew (Nat.le_refl _) HBB.out _⟩
theorem rd_all (cf : ByteArray → (Nat → Bool) × Bool) (l : List Int) (ext : Bool) (B : Nat) (e : Nat → Addr) (bv : Value) (x0 x1 x2 cb rb : Nat) : ∀ n, ReC cf l ext B e bv x0 x1 x2 cb rb n ∧ BrC cf l ext B e bv x0 x1 x2 cb rb n := by
  intro n
  induction n using Nat.strongRecOn with
  | _ n ih => exact ⟨fun k g o r W h hg ho hr => re_any (fun m hm => (ih m hm).2) k g o r W h hg ho hr, fun k g o r W h hg ho hr => branch_any (fun m hm => (ih m hm).1) k g o r W h hg ho hr⟩
theorem sl_shape {w : World} {v : Value} {l : List Int} (h : Sl w v l) : ∃ a n c, v = .slice a n c := by
  obtain ⟨_, _, ⟨_, a, cap, rfl⟩ | ⟨b, o, cap, rfl, _⟩⟩ := h
  · exact ⟨a, 0, cap, rfl⟩
  · exact ⟨_, _, cap, rfl⟩
set_option maxHeartbeats 4000000 in
theorem signs_any (bv : Value) (l : List Int) (ext : Bool) (w : World) (hs : Sl w bv l) :
    Calls Tryz.prog 34 #[bv, .bool ext] w fun x w' => ∃ x0 x1 x2 cb, x = .returned (.func (Fn.func 50) #[] #[.pointer (some ⟨x0, 0, none⟩), .pointer (some ⟨x1, 0, none⟩), .pointer (some ⟨x2, 0, none⟩)]) ∧ CapR w' x0 x1 x2 cb ext bv ∧ Cur w' cb (ofBys l) 0 ∧ w.heap.size ≤ cb ∧ Below w.heap.size w w' := by
  obtain ⟨ba, bn, bc, rfl⟩ := sl_shape hs
  obtain ⟨bv, hbv⟩ : ∃ bv, bv = Value.slice ba bn bc := ⟨_, rfl⟩
  rw [← hbv] at hs ⊢
  obtain ⟨W1, hW1⟩ : ∃ W1, W1 = (w.alloc (.cells #[bv] 25)).alloc (.cells #[.bool ext] 4) := ⟨_, rfl⟩
  have hz1 : W1.heap.size = w.heap.size + 2 := by rw [hW1]; simp
  have hb1 : Below w.heap.size w W1 := by rw [hW1]; exact ((Below.refl _ _).alloc (Nat.le_refl _) _).alloc (by simp) _
  have hx2 : W1.heap[w.heap.size]? = some (.cells #[bv] 25 (0, 0)) := by rw [hW1]; exact blk_alloc (alloc_last w _) _
  have hx1 : W1.heap[w.heap.size + 1]? = some (.cells #[.bool ext] 4 (0, 0)) := by rw [hW1]; have := alloc_last (w.alloc (.cells #[bv] 25)) (.cells #[.bool ext] 4); simpa using this
  have HCN := Lib.hid (cnew_any bv l W1 (hs.below hb1))
  have c2 : W1.cell? ⟨w.heap.size, 0, none⟩ = some bv := (Lib.cell_of_heap hx2 0).trans rfl
  have hls := hs.2.1
  obtain ⟨W3, hW3⟩ : ∃ W3, W3 = (W1.alloc (.cells #[.string (ofBys l), .int .i64 0] 159)).alloc (.cells #[.pointer (some ⟨w.heap.size + 2, 0, none⟩)] 127) := ⟨_, rfl⟩
  have hcu3 : W3.heap[w.heap.size + 2]? = some (.cells #[.string (ofBys l), .int .i64 0] 159 (0, 0)) := by rw [hW3]; exact blk_alloc (by have := alloc_last W1 (.cells #[.string (ofBys l), .int .i64 0] 159); rw [hz1] at this; exact this) _
  have hx03 : W3.heap[W1.heap.size + 1]? = some (.cells #[.pointer (some ⟨w.heap.size + 2, 0, none⟩)] 127 (0, 0)) := by rw [hW3]; have := alloc_last (W1.alloc (.cells #[.string (ofBys l), .int .i64 0] 159)) (.cells #[.pointer (some ⟨w.heap.size + 2, 0, none⟩)] 127); simpa using this
  have hb3 : Below W1.heap.size W1 W3 := by rw [hW3]; exact ((Below.refl _ _).alloc (Nat.le_refl _) _).alloc (by simp) _
  have HB13 := Lib.hid (hb3.mono (show w.heap.size ≤ W1.heap.size by omega))
  have HB1 := Lib.hid hb1
  have HX2 := Lib.hid (blk_below hx2 hb3)
  have HX1 := Lib.hid (blk_below hx1 hb3)
  have HCU := Lib.hid hcu3
  have HX0 := Lib.hid hx03
  have HW1 := Lib.hid hW1
  have HW3 := Lib.hid hW3
  have HLS := Lib.hid hls
  have HZ1 := Lib.hid hz1
  subst hbv
  clear hW1 hb1 hx2 hx1 hW3 hcu3 hx03 hb3 hs hls hz1
  go_enter Tryz.func34, Tryz.ntmps34
  go_upto_region 1 with fail
  rw [← HW1.out]
  go_wp2_with fail
  refine HCN.out.mono ?_
  rintro x w2 ⟨rfl, rfl⟩
  rw [HZ1.out]
  go_wp2_with fail
  rw [← HW3.out]
  go_ret
  have hz := HZ1.out
  exact ⟨W1.heap.size + 1, w.heap.size + 1, w.heap.size, w.heap.size + 2, rfl, ⟨HX0.out, HX1.out, HX2.out, by omega, by omega, by omega⟩, ⟨HCU.out, Nat.zero_le _, by rw [ofBys_size]; exact HLS.out⟩, by omega, HB1.out.trans HB13.out⟩
set_option maxHeartbeats 4000000 in
theorem newReader_any (cf : ByteArray → (Nat → Bool) × Bool) (e : Nat → Addr) (bv : Value) (l : List Int) (hcf : BkC cf l) (ext : Bool) (w : World) (he : Es w w.heap.size e) (hs : Sl w bv l) (hl : l.length ≤ 1048576) (hnb : ∀ x o n cap, bv = .slice (some ⟨x, o, none⟩) n cap → x < w.heap.size) :
    Calls Tryz.prog 17 #[bv, .bool ext] w fun x w' => ∃ x0 x1 x2 cb rb, x = .returned (.pointer (some ⟨rb, 0, none⟩)) ∧ RdS cf l ext w.heap.size e bv x0 x1 x2 cb rb 0 0 0 w' ∧ Below w.heap.size w w' := by
  have HSI := Lib.hid (signs_any bv l ext w hs)
  have HS := Lib.hid hs
  have HE := Lib.hid he
  have HNB := Lib.hid hnb
  have HCF := Lib.hid hcf
  have HL := Lib.hid hl
  clear hs he hnb hcf hl
  go_enter Tryz.func17, Tryz.ntmps17
  go_wp2_with fail
  refine HSI.out.mono ?_
  rintro x w1 ⟨x0, x1, x2, cb, rfl, hcap, hcur, hcb, hb1⟩
  have hlo := HE.out.low
  have HSG := Lib.hid (sgn_any cf e bv l HCF.out HS.out.1 HL.out ext x0 x1 x2 cb 0 w1 ⟨(HE.out.below hb1).var, by have := hb1.size; omega, Nat.le_refl _⟩ (HS.out.below hb1) hcap (by omega) (fun x o n cap hv => by have := HNB.out x o n cap hv; omega) hcur)
  have HCAP := Lib.hid hcap
  have HB1 := Lib.hid hb1
  clear hcap hcur hb1
  go_wp2_with fail
  refine HSG.out.mono ?_
  rintro x w2 ⟨lo, hi, ev, j, rfl, hm2, hse2⟩
  have hb2 : Below w.heap.size w w2 := HB1.out.trans (hm2.1.mono hcb)
  obtain ⟨W3, hW3⟩ : ∃ W3, W3 = w2.alloc (.cells (rdA ext x0 x1 x2 (sgA (sg cf l ext 0).kd (0 : Nat) (ofBys (sg cf l ext 0).tx) (sg cf l ext 0).nd lo hi ev) 0 0) 65) := ⟨_, rfl⟩
  have hb3 : Below w2.heap.size w2 W3 := by rw [hW3]; exact (Below.refl _ _).alloc (Nat.le_refl _) _
  have hr3 : W3.heap[w2.heap.size]? = some (.cells (rdA ext x0 x1 x2 (sgA (sg cf l ext 0).kd (0 : Nat) (ofBys (sg cf l ext 0).tx) (sg cf l ext 0).nd lo hi ev) 0 0) 65 (0, 0)) := by rw [hW3]; exact alloc_last _ _
  have hcw : cb < w2.heap.size := hm2.cur.facts.2.2.2.2
  have hw2 := hb2.size
  have HRD : Hid (RdS cf l ext w.heap.size e bv x0 x1 x2 cb w2.heap.size 0 0 0 W3) := Lib.hid
    { cx := ⟨HCF.out, HS.out.1, HL.out, hlo, hcb, hw2, by omega, HNB.out⟩
      rd := ⟨lo, hi, ev, j, hr3, ((Mv.below hm2.cur hb3)).cur, hse2.ch (ChR.below hb3 (Nat.le_refl w2.heap.size))⟩
      cap := (HCAP.out.mv hm2).mv (Mv.below hm2.cur hb3)
      es := HE.out.below (hb2.trans (hb3.mono hw2))
      sl := HS.out.below (hb2.trans (hb3.mono hw2))
      kl := Nat.zero_le _ }
  have HB3 := Lib.hid (hb2.trans (hb3.mono hw2))
  have HW3 := Lib.hid hW3
  clear hb2 hW3 hb3 hr3 hcw hw2 hm2 hse2
  unfold sgA at *
  unfold rdA at HW3
  go_wp2_with fail
  have hw3 := HW3.out
  clear HW3
  subst hw3
  go_ret
  exact ⟨x0, x1, x2, cb, w2.heap.size, rfl, HRD.out, HB3.out⟩
def WhP (cf : ByteArray → (Nat → Bool) × Bool) (l : List Int) (ext : Bool) (B : Nat) (e : Nat → Addr) (bv : Value) (x0 x1 x2 cb rb : Nat) (r : RR) (w : World) (x : Ending) (w' : World) : Prop :=
  match r with
  | .ok t k g => ∃ a m c, x = .returned (.tuple #[t.v (.slice a m c), .nilIface]) ∧ t.In w' (fun b => w.heap.size ≤ b) (.slice a m c) ∧ RdS cf l ext B e bv x0 x1 x2 cb rb k g 0 w' ∧ ChR B w w'
  | .bad c p => ∃ y a m k U b, x = .returned (.tuple #[Nd.v y (.slice a m k), .iface U (.pointer (some ⟨b, 0, none⟩))]) ∧ ErrQ w' e ext c p (.iface U (.pointer (some ⟨b, 0, none⟩))) ∧ ChR B w w'
def whR (cf : ByteArray → (Nat → Bool) × Bool) (l : List Int) (ext : Bool) : RR → RR
  | .bad c p => .bad c p
  | .ok t k g => if (sg cf l ext k).kd = 5 then .ok t k g else .bad 9 k
theorem rwhole_any (cf : ByteArray → (Nat → Bool) × Bool) (l : List Int) (ext : Bool) (B : Nat) (e : Nat → Addr) (bv : Value) (x0 x1 x2 cb rb n : Nat) (r0 r : RR) (w : World) (h : RdS cf l ext B e bv x0 x1 x2 cb rb 0 0 0 w) (hr0 : rdR cf l ext n (.re []) 0 0 0 = some r0) (hr : r = whR cf l ext r0) :
    Calls Tryz.prog 18 #[.pointer (some ⟨rb, 0, none⟩)] w (WhP cf l ext B e bv x0 x1 x2 cb rb r w) := by
  obtain ⟨W, hW⟩ : ∃ W, W = w.alloc (.cells zero9 57) := ⟨_, rfl⟩
  have hB : B ≤ w.heap.size := h.es.big
  have hbw : Below w.heap.size w W := by rw [hW]; exact (Below.refl _ _).alloc (Nat.le_refl _) _
  have h1 := h.next hbw
  have HRE := Lib.hid ((rd_all cf l ext B e bv x0 x1 x2 cb rb n).1 0 0 0 r0 W hr0 (by omega) (Nat.le_refl _) h1)
  have HG : Hid (W.heap[w.heap.size]? = some (.cells zero9 57 (0, 0))) := Lib.hid (by rw [hW]; exact alloc_last w _)
  have HBW := Lib.hid hbw
  have HWE := Lib.hid hW
  have HBB := Lib.hid hB
  have HRR := Lib.hid hr
  clear h h1 hbw hW hB hr hr0
  unfold zero9 at HWE
  go_enter Tryz.func18, Tryz.ntmps18
  go_upto_region 1 with fail
  rw [← HWE.out]
  go_wp2_with fail
  refine HRE.out.mono ?_
  rintro x w4 hp
  cases r0 with
  | bad c p =>
    obtain ⟨U, b, rfl, he4, hc4⟩ := hp
    have hrr : r = .bad c p := HRR.out
    subst hrr
    have hlt : w.heap.size < w4.heap.size := by have := lt_blkB HG.out; have := hc4.bel.size; omega
    have hB4 : B ≤ w4.heap.size := by have := HBB.out; omega
    obtain ⟨W5, hW5⟩ : ∃ W5, W5 = w4.alloc (.cells zero9 57) := ⟨_, rfl⟩
    have hT5 : W5.heap[w4.heap.size]? = some (.cells zero9 57 (0, 0)) := by rw [hW5]; exact alloc_last _ _
    obtain ⟨W6, hW6⟩ : ∃ W6, W6 = W5.setRow w4.heap.size (zeroN.cells (.slice none 0 0)).toArray := ⟨_, rfl⟩
    have hb6 : Below w4.heap.size w4 W6 := by rw [hW6, hW5]; exact below_setRow ((Below.refl _ _).alloc (Nat.le_refl _) _) (Nat.le_refl _) _
    have HT6 : Hid (W6.heap[w4.heap.size]? = some (.cells (zeroN.cells (.slice none 0 0)).toArray 57 (0, 0))) := Lib.hid (by rw [hW6]; exact setRow_selfR hT5 _)
    have hc6 : ChR B w W6 := ((ChR.below HBW.out HBB.out).trans hc4).trans (ChR.below hb6 hB4)
    have HG6 : Hid (W6.heap[w.heap.size]? = some (.cells zero9 57 (0, 0))) := Lib.hid (blk_below ((hc4.oth _ _ _ (by decide) (by decide) HG.out).trans HG.out) hb6)
    have HE6 := Lib.hid (he4.below hb6)
    have HC6 := Lib.hid hc6
    have HT5 := Lib.hid hT5
    have HW5 := Lib.hid hW5
    have HW6 := Lib.hid hW6
    clear hW5 hT5 hW6 hb6 hc6 he4 hc4
    unfold zero9 at HW5
    rw [zero9_v]
    unfold zero9
    go_upto_region 2 with (first | (rw [← HW5.out]; refine wpList_store_re rfl _ _ rfl rfl w4.heap.size zeroN none 0 0 rfl zero9_v.symm _ HT5.out rfl ?_; rw [← HW6.out]) | fail)
    go_wp2_with (first | (refine wpList_load_row rfl 57 _ rfl w4.heap.size rfl _ _ (0, 0) _ HT6.out Tryz.underlying57 rfl re_size ?_) | (refine wpList_store_re rfl _ _ rfl rfl w.heap.size zeroN none 0 0 rfl rfl _ HG6.out rfl ?_) | fail)
    exact bodyPost_ret (results_re2 rfl _ _ w.heap.size zeroN nilS _ rfl rfl (setRow_selfR HG6.out _)) rfl ⟨zeroN, none, 0, 0, _, b, rfl, HE6.out.setRow HG6.out (by decide) _, HC6.out.setNew (Nat.le_refl _) HBB.out _⟩
  | ok t k g =>
    obtain ⟨a, m, c, rfl, hin4, hrd4, hc4⟩ := hp
    have hlt : w.heap.size < w4.heap.size := by have := lt_blkB HG.out; have := hc4.bel.size; omega
    have hWs : W.heap.size ≤ w4.heap.size := hc4.bel.size
    have hWw : w.heap.size < W.heap.size := lt_blkB HG.out
    have hB4 : B ≤ w4.heap.size := by have := HBB.out; omega
    obtain ⟨W5, hW5⟩ : ∃ W5, W5 = w4.alloc (.cells zero9 57) := ⟨_, rfl⟩
    have hT5 : W5.heap[w4.heap.size]? = some (.cells zero9 57 (0, 0)) := by rw [hW5]; exact alloc_last _ _
    obtain ⟨W6, hW6⟩ : ∃ W6, W6 = W5.setRow w4.heap.size (t.cells (.slice a m c)).toArray := ⟨_, rfl⟩
    have hb6 : Below w4.heap.size w4 W6 := by rw [hW6, hW5]; exact below_setRow ((Below.refl _ _).alloc (Nat.le_refl _) _) (Nat.le_refl _) _
    have hT6 : W6.heap[w4.heap.size]? = some (.cells (t.cells (.slice a m c)).toArray 57 (0, 0)) := by rw [hW6]; exact setRow_selfR hT5 _
    have hc6 : ChR B w W6 := ((ChR.below HBW.out HBB.out).trans hc4).trans (ChR.below hb6 hB4)
    have hr6 := hrd4.next hb6
    have HG6 : Hid (W6.heap[w.heap.size]? = some (.cells zero9 57 (0, 0))) := Lib.hid (blk_below ((hc4.oth _ _ _ (by decide) (by decide) HG.out).trans HG.out) hb6)
    have HI6 : Hid (t.In W6 (fun b => w.heap.size + 1 ≤ b) (.slice a m c)) := Lib.hid ((hin4.below hb6).mono (fun k hk _ => by omega))
    obtain ⟨_, c2, c3, _, _, _, _⟩ := hr6.cells
    have hrb6 := hr6.lt.1
    have HRF := Lib.hid (refz_err e ext B W6 hr6.es 9 (k : Nat) (by simp))
    have HT6 := Lib.hid hT6
    have HR6 := Lib.hid hr6
    have HC6 := Lib.hid hc6
    have HT5 := Lib.hid hT5
    have HW5 := Lib.hid hW5
    have HW6 := Lib.hid hW6
    clear hW5 hT5 hW6 hT6 hb6 hc6 hr6 hin4 hrd4 hc4
    unfold zero9 at HW5
    have HWV : Hid (t.v (.slice a m c) = .agg (t.cells (.slice a m c)).toArray) := Lib.hid rfl
    rw [HWV.out]
    go_upto_region 2 with (first | (rw [← HW5.out]; refine wpList_store_re rfl _ _ rfl rfl w4.heap.size t a m c rfl rfl _ HT5.out rfl ?_; rw [← HW6.out]) | fail)
    by_cases h5 : (sg cf l ext k).kd = 5
    · have hrr : r = .ok t k g := by rw [HRR.out]; exact if_pos h5
      subst hrr
      rw [h5] at c2
      clear h5
      go_wp2_with (first | (refine wpList_load_row rfl 57 _ rfl w4.heap.size rfl _ _ (0, 0) _ HT6.out Tryz.underlying57 rfl re_size ?_) | (refine wpList_store_re rfl _ _ rfl rfl w.heap.size t a m c rfl rfl _ HG6.out rfl ?_) | fail)
      exact bodyPost_ret (results_re2 rfl _ _ w.heap.size t (.slice a m c) _ rfl rfl (setRow_selfR HG6.out _)) rfl ⟨a, m, c, rfl, (HI6.out.kept (fun k hk _ _ => setRow_other _ _ _ _ (by omega))).mono (fun k hk _ => by omega), HR6.out.setRow HG6.out (Or.inl rfl) HBB.out _, HC6.out.setNew (Nat.le_refl _) HBB.out _⟩
    · have hrr : r = .bad 9 k := by rw [HRR.out]; exact if_neg h5
      subst hrr
      have e5 : (((sg cf l ext k).kd : Int) == 5) = false := by simp; omega
      generalize (sg cf l ext k).kd = kk at c2 e5
      clear h5
      go_wp2_with (first | (refine wpList_load_row rfl 57 _ rfl w4.heap.size rfl _ _ (0, 0) _ HT6.out Tryz.underlying57 rfl re_size ?_) | (refine wpList_store_re rfl _ _ rfl rfl w.heap.size t a m c rfl rfl _ HG6.out rfl ?_) | fail)
      refine HRF.out.mono ?_
      rintro x w7 ⟨b, rfl, he7, hb7⟩
      have HT7 : Hid (w7.heap[w4.heap.size]? = some (.cells (t.cells (.slice a m c)).toArray 57 (0, 0))) := Lib.hid (blk_below HT6.out hb7)
      have HG7 : Hid (w7.heap[w.heap.size]? = some (.cells zero9 57 (0, 0))) := Lib.hid (blk_below HG6.out hb7)
      have HCH : Hid (ChR B w w7) := Lib.hid (HC6.out.trans (ChR.below hb7 (Nat.le_trans HBB.out HC6.out.bel.size)))
      have HE7 := Lib.hid he7
      clear hb7 he7 c2 c3
      go_wp2_with (first | (refine wpList_load_row rfl 57 _ rfl w4.heap.size rfl _ _ (0, 0) _ HT7.out Tryz.underlying57 rfl re_size ?_) | (refine wpList_store_re rfl _ _ rfl rfl w.heap.size t a m c rfl rfl _ HG7.out rfl ?_) | fail)
      exact bodyPost_ret (results_re2 rfl _ _ w.heap.size t (.slice a m c) _ rfl rfl (setRow_selfR HG7.out _)) rfl ⟨t, a, m, c, _, b, rfl, HE7.out.setRow HG7.out (by decide) _, HCH.out.setNew (Nat.le_refl _) HBB.out _⟩
def reA (t : Nd) (kv : Value) (g : Nat) (ext : Bool) : Array Value := (t.cells kv ++ [Value.int .i64 g, Value.bool ext]).toArray
def ParP (e : Nat → Addr) (ext : Bool) (r : RR) (w : World) (x : Ending) (w' : World) : Prop :=
  match r with
  | .ok t _ g => ∃ p a m c, x = .returned (.tuple #[.pointer (some ⟨p, 0, none⟩), .nilIface]) ∧ w.heap.size ≤ p ∧ w'.heap[p]? = some (.cells (reA t (.slice a m c) g ext) 67 (0, 0)) ∧ t.In w' (fun b => w.heap.size ≤ b) (.slice a m c) ∧ Below w.heap.size w w'
  | .bad c p => ∃ k, x = .returned (.tuple #[.pointer none, .iface 95 (.pointer (some ⟨k, 0, none⟩))]) ∧ ErrS w' 0 e (langR ext) c p (.iface 95 (.pointer (some ⟨k, 0, none⟩))) ∧ Below w.heap.size w w'
theorem sl_shapeL {w : World} {v : Value} {l : List Int} (h : Sl w v l) : ∃ a c, v = .slice a l.length c := by
  obtain ⟨_, _, ⟨rfl, a, cap, rfl⟩ | ⟨b, o, cap, rfl, _⟩⟩ := h
  · exact ⟨a, cap, rfl⟩
  · exact ⟨_, cap, rfl⟩
theorem p_built (t : Nd) (a : Option Addr) (m c : Nat) (g : Int) (ext : Bool) : Tryz.prog.built 67 [(0, .agg (t.cells (.slice a m c)).toArray), (1, .int .i64 g), (2, .bool ext)] = some (t.cells (.slice a m c) ++ [Value.int .i64 g, Value.bool ext]).toArray := by unfold Nd.cells; kernel_rfl
structure PaS (W : World) (cs : Array Value) (b : Bool) (X : World) : Prop where
  no : b = false → X = W
  yes : b = true → X = W.alloc (.cells cs 67)
theorem PaS.or {W : World} {cs : Array Value} {b : Bool} {X : World} (h : PaS W cs b X) : X = W ∨ X = W.alloc (.cells cs 67) := by
  cases b with
  | false => exact Or.inl (h.no rfl)
  | true => exact Or.inr (h.yes rfl)
set_option maxHeartbeats 4000000 in
theorem parse_long (e : Nat → Addr) (bv : Value) (l : List Int) (ext : Bool) (w : World) (he : Es w w.heap.size e) (ht : Ety w) (hs : Sl w bv l) (hl : 256 < l.length) :
    Calls Tryz.prog 9 #[bv, .bool ext] w (ParP e ext (.bad 2 0) w) := by
  obtain ⟨ba, bc, rfl⟩ := sl_shapeL hs
  have HRF := Lib.hid (refz_err e ext w.heap.size w he 2 (0 : Nat) (by simp))
  have hli : (256 : Int) < (l.length : Int) := by omega
  have HT := Lib.hid ht
  clear he ht hs hl
  generalize l.length = n at *
  go_enter Tryz.func9, Tryz.ntmps9
  go_wp2_with fail
  refine HRF.out.mono ?_
  rintro x w2 ⟨b, rfl, he2, hb2⟩
  have HTO := Lib.hid (told_any e ext 2 (0 : Nat) _ w2 (HT.out.below hb2) he2)
  have HB2 := Lib.hid hb2
  clear he2 hb2
  go_wp2_with fail
  refine HTO.out.mono ?_
  rintro x w3 ⟨k, rfl, he3, hb3⟩
  have HE3 := Lib.hid he3
  have HB3 := Lib.hid (below_thn HB2.out (Nat.le_refl _) hb3)
  clear he3 hb3
  go_wp2
  go_ret2
  exact ⟨k, rfl, HE3.out, HB3.out⟩
theorem parse_any (cf : ByteArray → (Nat → Bool) × Bool) (e : Nat → Addr) (bv : Value) (l : List Int) (hcf : BkC cf l) (ext : Bool) (n : Nat) (r : RR) (w : World) (he : Es w w.heap.size e) (ht : Ety w) (hs : Sl w bv l) (hnb : ∀ x o n cap, bv = .slice (some ⟨x, o, none⟩) n cap → x < w.heap.size) (hr : parseN cf l ext n = some r) :
    Calls Tryz.prog 9 #[bv, .bool ext] w (ParP e ext r w) := by
  by_cases hl : 256 < l.length
  · unfold parseN at hr
    rw [if_pos hl] at hr
    obtain rfl := Option.some.inj hr
    exact parse_long e bv l ext w he ht hs hl
  unfold parseN at hr
  rw [if_neg hl] at hr
  obtain ⟨r0, hr0, rfl⟩ : ∃ r0, rdR cf l ext n (.re []) 0 0 0 = some r0 ∧ r = whR cf l ext r0 := by
    cases h0 : rdR cf l ext n (.re []) 0 0 0 with
    | none => rw [h0] at hr; cases hr
    | some r0 =>
      rw [h0] at hr
      refine ⟨r0, rfl, ?_⟩
      cases r0 with
      | bad c p => exact (Option.some.inj hr).symm
      | ok t k g =>
        dsimp only at hr
        by_cases h5 : (sg cf l ext k).kd = 5
        · rw [if_pos h5] at hr
          have e : whR cf l ext (.ok t k g) = .ok t k g := if_pos h5
          rw [e]
          exact (Option.some.inj hr).symm
        · rw [if_neg h5] at hr
          have e : whR cf l ext (.ok t k g) = .bad 9 k := if_neg h5
          rw [e]
          exact (Option.some.inj hr).symm
  have HNR := Lib.hid (newReader_any cf e bv l hcf ext w he hs (by omega) hnb)
  have HWH : Hid (∀ x0 x1 x2 cb rb W, RdS cf l ext w.heap.size e bv x0 x1 x2 cb rb 0 0 0 W → Calls Tryz.prog 18 #[.pointer (some ⟨rb, 0, none⟩)] W (WhP cf l ext w.heap.size e bv x0 x1 x2 cb rb (whR cf l ext r0) W)) := Lib.hid (fun x0 x1 x2 cb rb W h => rwhole_any cf l ext _ e bv x0 x1 x2 cb rb n r0 _ W h hr0 rfl)
  obtain ⟨ba, bc, rfl⟩ := sl_shapeL hs
  have hli : ¬ (256 : Int) < (l.length : Int) := by omega
  have HT := Lib.hid ht
  generalize hrw : whR cf l ext r0 = r at *
  clear he ht hs hl hr hr0 hnb hcf hrw
  go_enter Tryz.func9, Tryz.ntmps9
  go_wp2_with fail
  refine HNR.out.mono ?_
  rintro x w1 ⟨x0, x1, x2, cb, rb, rfl, hrd1, hb1⟩
  have HW1 := Lib.hid (HWH.out x0 x1 x2 cb rb w1 hrd1)
  have HB1 := Lib.hid hb1
  have HR1 := Lib.hid hrd1
  clear hrd1 hb1
  go_wp2_with fail
  refine HW1.out.mono ?_
  rintro x w4 hp
  cases r with
  | bad c p =>
    obtain ⟨y, a, m, k, U, b, rfl, he4, hc4⟩ := hp
    obtain ⟨W5, hW5⟩ : ∃ W5, W5 = w4.alloc (.cells zero9 57) := ⟨_, rfl⟩
    have hT5 : W5.heap[w4.heap.size]? = some (.cells zero9 57 (0, 0)) := by rw [hW5]; exact alloc_last _ _
    obtain ⟨W6, hW6⟩ : ∃ W6, W6 = W5.setRow w4.heap.size (y.cells (.slice a m k)).toArray := ⟨_, rfl⟩
    have hb6 : Below w4.heap.size w4 W6 := by rw [hW6, hW5]; exact below_setRow ((Below.refl _ _).alloc (Nat.le_refl _) _) (Nat.le_refl _) _
    have hz4 : w.heap.size ≤ w4.heap.size := Nat.le_trans HB1.out.size hc4.bel.size
    have hbb : Below w.heap.size w W6 := (HB1.out.trans hc4.bel).trans (hb6.mono hz4)
    have HTO := Lib.hid (told_any e ext c p _ W6 (HT.out.below hbb) (he4.below hb6))
    have HB6 := Lib.hid hbb
    have HT5 := Lib.hid hT5
    have HW5 := Lib.hid hW5
    have HW6 := Lib.hid hW6
    clear hW5 hT5 hW6 hb6 hbb he4 hc4 hz4
    unfold zero9 at HW5
    have HWV : Hid (Nd.v y (.slice a m k) = .agg (y.cells (.slice a m k)).toArray) := Lib.hid rfl
    rw [HWV.out]
    go_upto_region 5 with (first | (rw [← HW5.out]; refine wpList_store_re rfl _ _ rfl rfl w4.heap.size y a m k rfl rfl _ HT5.out rfl ?_; rw [← HW6.out]) | fail)
    go_wp2_with fail
    refine HTO.out.mono ?_
    rintro x w7 ⟨kk, rfl, he7, hb7⟩
    have HE7 := Lib.hid he7
    have HB7 := Lib.hid (below_thn HB6.out (Nat.le_refl _) hb7)
    clear he7 hb7
    go_wp2
    go_ret2
    exact ⟨kk, rfl, HE7.out, HB7.out⟩
  | ok t k g =>
    obtain ⟨a, m, c, rfl, hin4, hrd4, hc4⟩ := hp
    obtain ⟨W5, hW5⟩ : ∃ W5, W5 = w4.alloc (.cells zero9 57) := ⟨_, rfl⟩
    have hT5 : W5.heap[w4.heap.size]? = some (.cells zero9 57 (0, 0)) := by rw [hW5]; exact alloc_last _ _
    obtain ⟨W6, hW6⟩ : ∃ W6, W6 = W5.setRow w4.heap.size (t.cells (.slice a m c)).toArray := ⟨_, rfl⟩
    have hb6 : Below w4.heap.size w4 W6 := by rw [hW6, hW5]; exact below_setRow ((Below.refl _ _).alloc (Nat.le_refl _) _) (Nat.le_refl _) _
    have hT6 : W6.heap[w4.heap.size]? = some (.cells (t.cells (.slice a m c)).toArray 57 (0, 0)) := by rw [hW6]; exact setRow_selfR hT5 _
    have hz4 : w.heap.size ≤ w4.heap.size := Nat.le_trans HB1.out.size hc4.bel.size
    have hbb : Below w.heap.size w W6 := (HB1.out.trans hc4.bel).trans (hb6.mono hz4)
    have hr6 := hrd4.next hb6
    obtain ⟨_, _, _, c17, _, _, _⟩ := hr6.cells
    have hrb6 := hr6.lt.1
    have hw1 := HB1.out.size
    have HI6 : Hid (t.In W6 (fun b => w.heap.size ≤ b) (.slice a m c)) := Lib.hid ((hin4.below hb6).mono (fun k hk _ => by omega))
    have HC17 := Lib.hid c17
    have HT6 := Lib.hid hT6
    have HB6 := Lib.hid hbb
    have HT5 := Lib.hid hT5
    have HW5 := Lib.hid hW5
    have HW6 := Lib.hid hW6
    have hz6 : w.heap.size ≤ W6.heap.size := hbb.size
    clear hW5 hT5 hW6 hT6 hb6 hbb hr6 hin4 hrd4 hc4 hz4 c17
    unfold zero9 at HW5
    have HWV : Hid (Nd.v t (.slice a m c) = .agg (t.cells (.slice a m c)).toArray) := Lib.hid rfl
    rw [HWV.out]
    have HPB := Lib.hid (p_built t a m c (g : Nat) ext)
    have HCM : Hid (∀ X : World, X = W6.drew ∨ X = W6.drew.alloc (.cells (reA t (.slice a m c) g ext) 67) → X.heap[w4.heap.size]? = some (.cells (t.cells (.slice a m c)).toArray 57 (0, 0)) ∧ X.cell? ⟨rb, 17, none⟩ = some (.int .i64 g)) := Lib.hid (fun X hX => by
      rcases hX with rfl | rfl
      · exact ⟨HT6.out, HC17.out⟩
      · refine ⟨blk_alloc (X := W6.drew) HT6.out _, ?_⟩
        have hb : Below W6.heap.size W6 (W6.drew.alloc (.cells (reA t (.slice a m c) g ext) 67)) := ((Below.refl _ _).drew).alloc (Nat.le_refl _) _
        rw [hb.cell (p := ⟨rb, 17, none⟩) hrb6]
        exact HC17.out)
    go_upto_region 5 with (first | (rw [← HW5.out]; refine wpList_store_re rfl _ _ rfl rfl w4.heap.size t a m c rfl rfl _ HT5.out rfl ?_; rw [← HW6.out]) | fail)
    go_upto_region 7 with fail
    refine Reg.wp_region_sto (fun L _ X => PaS W6.drew (reA t (.slice a m c) g ext) (L 7) X) (fun j => ([some (.agg (t.cells (.slice a m c)).toArray), some (.pointer (some ⟨rb, 0, none⟩)), some (.pointer (some ⟨rb, 0, none⟩)), some (.pointer (some ⟨rb, 17, none⟩)), some (.int .i64 g), some (.bool ext), some (.agg (reA t (.slice a m c) g ext)), some (.pointer (some ⟨W6.heap.size, 0, none⟩)), some (.pointer (some ⟨W6.heap.size, 0, none⟩)), some (.nilIface)] : List (Option Value)).getD j none) (by kernel_rfl) (by kernel_rfl) (by kernel_rfl) (by kernel_rfl) ?rs0 ?rsE ?rsZ
    case rs0 => exact ⟨fun _ => rfl, fun h => (by cases h)⟩
    case rsE =>
      refine Reg.EachG.plain rfl (fun L u T X hL hz hS hk K hK => ?_) ?_
      · skip
        have g7 := hk.old 7 (by kernel_rfl) rfl
        have hcm := HCM.out X hS.or
        refine wp_load_part 57 _ rfl w4.heap.size 0 (by simp [Act.eval, g7]) _ (t.cells (.slice a m c)).toArray (t.cells (.slice a m c)) (0, 0) _ hcm.1 (fun i u hu => by rw [Nat.zero_add]; simpa using hu) Tryz.underlying57 rfl re_size ?_
        exact hK _ X hS (fun _ hx => Option.some.inj hx)
      refine Reg.EachG.plain rfl (fun L u T X hL hz hS hk K hK => ?_) ?_
      · skip
        have g6 := hk.old 6 (by kernel_rfl) rfl
        have hK := hK _ X hS (fun _ hx => Option.some.inj hx)
        clear hk hz hL
        go_simp
        exact hK
      refine Reg.EachG.plain rfl (fun L u T X hL hz hS hk K hK => ?_) ?_
      · skip
        have g29 := hk.val 1 29 (by kernel_rfl) (by kernel_rfl) rfl
        have hK := hK _ X hS (fun _ hx => Option.some.inj hx)
        clear hk hz hL
        go_simp
        exact hK
      refine Reg.EachG.plain rfl (fun L u T X hL hz hS hk K hK => ?_) ?_
      · skip
        have g30 := hk.val 2 30 (by kernel_rfl) (by kernel_rfl) rfl
        have hK := hK _ X hS (fun _ hx => Option.some.inj hx)
        clear hk hz hL
        go_simp
        exact hK
      refine Reg.EachG.plain rfl (fun L u T X hL hz hS hk K hK => ?_) ?_
      · skip
        have g31 := hk.val 3 31 (by kernel_rfl) (by kernel_rfl) rfl
        have cb := (HCM.out X hS.or).2
        have hK := hK _ X hS (fun _ hx => Option.some.inj hx)
        clear hk hz hL hS
        go_simp
        exact hK
      refine Reg.EachG.plain rfl (fun L u T X hL hz hS hk K hK => ?_) ?_
      · skip
        have g1 := hk.old 1 (by kernel_rfl) rfl
        have hK := hK _ X hS (fun _ hx => Option.some.inj hx)
        clear hk hz hL
        go_simp
        exact hK
      refine Reg.EachG.plain rfl (fun L u T X hL hz hS hk K hK => ?_) ?_
      · skip
        have g28 := hk.val 0 28 (by kernel_rfl) (by kernel_rfl) rfl
        have g32 := hk.val 4 32 (by kernel_rfl) (by kernel_rfl) rfl
        have g33 := hk.val 5 33 (by kernel_rfl) (by kernel_rfl) rfl
        have hbu := HPB.out
        refine wp_build _ _ rfl ?_ ?_
        · simp [Act.eval, g28, g32, g33, hbu]
        have hK := hK (.agg (reA t (.slice a m c) g ext)) X hS (fun _ hx => Option.some.inj hx)
        unfold reA at hK
        simp [Act.eval, g28, g32, g33, hbu]
        simpa using hK
      refine Reg.EachG.plain rfl (fun L u T X hL hz hS hk K hK => ?_) ?_
      · skip
        have g34 := hk.val 6 34 (by kernel_rfl) (by kernel_rfl) rfl
        have hS' : X = W6.drew := hS.no hL
        clear hS hk
        subst hS'
        have hK := hK (.pointer (some ⟨W6.heap.size, 0, none⟩)) (W6.drew.alloc (.cells (reA t (.slice a m c) g ext) 67)) ⟨fun h => (by rw [Reg.upd_same] at h; cases h), fun _ => rfl⟩ (fun _ hx => Option.some.inj hx)
        clear hz hL
        generalize (reA t (.slice a m c) g ext) = cs at *
        go_simp
        exact hK
      refine Reg.EachG.plain rfl (fun L u T X hL hz hS hk K hK => ?_) ?_
      · skip
        have g35 := hk.val 7 35 (by kernel_rfl) (by kernel_rfl) rfl
        have hK := hK _ X hS (fun _ hx => Option.some.inj hx)
        clear hk hz hL
        go_simp
        exact hK
      refine Reg.EachG.plain rfl (fun L u T X hL hz hS hk K hK => ?_) ?_
      · skip
        have hK := hK _ X hS (fun _ hx => Option.some.inj hx)
        clear hk hz hL
        go_simp
        exact hK
      exact Reg.EachG.nil
    case rsZ =>
      intro L u w9 hL hS hI
      have e0 := hI 0 (by decide) _ rfl
      have e1 := hI 1 (by decide) _ rfl
      have e2 := hI 2 (by decide) _ rfl
      have e3 := hI 3 (by decide) _ rfl
      have e4 := hI 4 (by decide) _ rfl
      have e5 := hI 5 (by decide) _ rfl
      have e6 := hI 6 (by decide) _ rfl
      have e7 := hI 7 (by decide) _ rfl
      have e8 := hI 8 (by decide) _ rfl
      have e9 := hI 9 (by decide) _ rfl
      clear hI
      simp only [Reg.putAll, Act.put, List.setIfInBounds_toArray, List.set_cons_succ, List.set_cons_zero, Nat.zero_add, Nat.reduceAdd, e0, e1, e2, e3, e4, e5, e6, e7, e8, e9]
      clear e0 e1 e2 e3 e4 e5 e6 e7 e8 e9
      have d7 := hL 7 (by decide)
      have hS7 := hS.yes d7
      clear hS
      subst hS7
      clear d7 hL u L
      have HI7 : Hid (t.In (W6.drew.alloc (.cells (reA t (.slice a m c) g ext) 67)) (fun b => w.heap.size ≤ b) (.slice a m c)) := Lib.hid (HI6.out.below (((Below.refl _ _).drew).alloc (Nat.le_refl _) _))
      have HB7 : Hid (Below w.heap.size w (W6.drew.alloc (.cells (reA t (.slice a m c) g ext) 67))) := Lib.hid (HB6.out.drew.alloc hz6 _)
      have HN7 : Hid ((W6.drew.alloc (.cells (reA t (.slice a m c) g ext) 67)).heap[W6.heap.size]? = some (.cells (reA t (.slice a m c) g ext) 67 (0, 0))) := Lib.hid (alloc_last W6.drew _)
      generalize W6.drew.alloc (.cells (reA t (.slice a m c) g ext) 67) = WF at *
      go_wp2
      go_ret2
      exact ⟨W6.heap.size, a, m, c, rfl, hz6, HN7.out, HI7.out, HB7.out⟩
end Go.Proofs.YtnpkcllbpnmabaaGreatDoor
