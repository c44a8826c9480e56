/- Bracket over any bytes, from any place, in any language (gen_bkt.py). -/
import Derived.Test.YtopnckfmdjhbjaaDoorSeBrx
import Derived.Test.YtopnckfmdjhbjaaDoorSeBkt
namespace Go.Proofs.YtopnckfmdjhbjaaDoor
open Go.RowKit

theorem hasB_no (lg : Int) (w : World) (h : ¬ (lg = 2 ∨ lg = 3 ∨ lg = 4)) :
    Calls Tryd.prog 51 #[.int .i64 lg] w fun e w' => e = .returned (.bool false) ∧ w' = w := by
  have h2 : ¬ lg = 2 := fun e => h (Or.inl e)
  have h3 : ¬ lg = 3 := fun e => h (Or.inr (Or.inl e))
  have h4 : ¬ lg = 4 := fun e => h (Or.inr (Or.inr e))
  have e2 : (lg == 2) = false := by simpa using h2
  have e3 : (lg == 3) = false := by simpa using h3
  have e4 : (lg == 4) = false := by simpa using h4
  clear h h2 h3 h4
  go_enter Tryd.func51, Tryd.ntmps51
  go_wp2
  go_ret
  exact ⟨rfl, rfl⟩
/-- What Bracket tells, its arguments being right. -/
def BkPost (r : BR) (e : Nat → Addr) (k : Nat) (lg : Int) (w : World) (x : Ending) (w' : World) : Prop :=
  match r with
  | .ok p nx => x = .returned (.tuple #[SV p, .int .i64 (k + nx : Nat), .nilIface]) ∧ Below w.heap.size w w'
  | .bad c pos => ∃ v, x = .returned (.tuple #[SV noP, .int .i64 0, v]) ∧ ErrS w' w.heap.size e lg c (k + pos : Nat) v ∧ Below w.heap.size w w'
/-- Does Bracket refuse its arguments. -/
def argBad (n : Nat) (at' lg : Int) : Prop := at' < 0 ∨ (n : Int) < at' ∨ ¬ (lg = 2 ∨ lg = 3 ∨ lg = 4)

set_option maxRecDepth 100000 in
set_option maxHeartbeats 16000000 in
theorem bkt_arg (e : Nat → Addr) (ad : Option Addr) (n cap : Nat) (pl lg : Int) (w : World) (he : Es w w.heap.size e) (h : argBad n pl lg) (hn : n ≤ 9223372036854775807) :
    Calls Tryd.prog 29 #[.slice ad n cap, .int .i64 pl, .int .i64 lg] w fun x w' => ∃ v, x = .returned (.tuple #[SV noP, .int .i64 0, v]) ∧ ErrS w' w.heap.size e lg 1 (0 : Nat) v ∧ Below w.heap.size w w' := by
  have HE := Lib.hid he
  have hn0 : (0 : Int) ≤ n := by omega
  clear he
  by_cases h1 : pl < 0
  · clear h
    go_enter Tryd.func29, Tryd.ntmps29
    go_wp2_with fail
    refine (refuse_any (w.heap.size + 1) lg e w.heap.size 1 0 (by decide) _ (HE.out.below (((Below.refl _ _).alloc (Nat.le_refl _) _).alloc (by simp) _)) (by simp)).mono ?_
    rintro x w1 ⟨v, rfl, her, hb⟩
    have hg := (hb.block w.heap.size (by simp; omega)).trans ((Below.heap_alloc _ _ _ (by simp)).trans (alloc_last w (.cells #[.int .u64 0, .int .u64 0, .int .u64 0, .int .u64 0] 53)))
    obtain ⟨⟨c0, c1, c2, c3⟩, ⟨g0, g1, g2, g3⟩, hgz⟩ := cells4 hg
    have HER := Lib.hid her
    have HB := Lib.hid hb
    clear hg her hb
    go_wp2
    refine bodyPost_ret (by simp [results, Tryd.results29, go_sem, c0, c1, c2, c3]; rfl) rfl ⟨_, by unfold SV; rw [item_no.1, item_no.2.1, item_no.2.2.1, item_no.2.2.2], ErrS.lower (ErrS.set (ErrS.set (ErrS.set (ErrS.set HER.out w.heap.size 0 _ (by simp; omega)) w.heap.size 1 _ (by simp; omega)) w.heap.size 2 _ (by simp; omega)) w.heap.size 3 _ (by simp; omega)) (by simp; omega), ?_⟩
    exact (((((((Below.refl _ _).alloc (Nat.le_refl _) _).alloc (by simp) _).trans (HB.out.mono (by simp; omega))).setCell (by simp) _).setCell (by simp) _).setCell (by simp) _).setCell (by simp) _
  by_cases h2 : (n : Int) < pl
  · clear h
    have h1' : 0 ≤ pl := by omega
    clear h1
    go_enter Tryd.func29, Tryd.ntmps29
    go_wp2_with fail
    refine (refuse_any (w.heap.size + 1) lg e w.heap.size 1 0 (by decide) _ (HE.out.below (((Below.refl _ _).alloc (Nat.le_refl _) _).alloc (by simp) _)) (by simp)).mono ?_
    rintro x w1 ⟨v, rfl, her, hb⟩
    have hg := (hb.block w.heap.size (by simp; omega)).trans ((Below.heap_alloc _ _ _ (by simp)).trans (alloc_last w (.cells #[.int .u64 0, .int .u64 0, .int .u64 0, .int .u64 0] 53)))
    obtain ⟨⟨c0, c1, c2, c3⟩, ⟨g0, g1, g2, g3⟩, hgz⟩ := cells4 hg
    have HER := Lib.hid her
    have HB := Lib.hid hb
    clear hg her hb
    go_wp2
    refine bodyPost_ret (by simp [results, Tryd.results29, go_sem, c0, c1, c2, c3]; rfl) rfl ⟨_, by unfold SV; rw [item_no.1, item_no.2.1, item_no.2.2.1, item_no.2.2.2], ErrS.lower (ErrS.set (ErrS.set (ErrS.set (ErrS.set HER.out w.heap.size 0 _ (by simp; omega)) w.heap.size 1 _ (by simp; omega)) w.heap.size 2 _ (by simp; omega)) w.heap.size 3 _ (by simp; omega)) (by simp; omega), ?_⟩
    exact (((((((Below.refl _ _).alloc (Nat.le_refl _) _).alloc (by simp) _).trans (HB.out.mono (by simp; omega))).setCell (by simp) _).setCell (by simp) _).setCell (by simp) _).setCell (by simp) _
  have h3 : ¬ (lg = 2 ∨ lg = 3 ∨ lg = 4) := h.elim (fun h => absurd h h1) (fun h => h.elim (fun h => absurd h h2) id)
  have h1' : 0 ≤ pl := by omega
  have h2' : pl ≤ n := by omega
  have HH : ∀ w, Hid (Calls Tryd.prog 51 #[.int .i64 lg] w fun e w' => e = .returned (.bool false) ∧ w' = w) := fun w => Lib.hid (hasB_no lg w h3)
  clear h h1 h2 h3
  go_enter Tryd.func29, Tryd.ntmps29
  go_wp2_with fail
  refine (HH _).out.mono ?_
  rintro e' w' ⟨rfl, rfl⟩
  go_wp2_with fail
  refine (refuse_any (w.heap.size + 1) lg e w.heap.size 1 0 (by decide) _ (HE.out.below (((Below.refl _ _).alloc (Nat.le_refl _) _).alloc (by simp) _)) (by simp)).mono ?_
  rintro x w1 ⟨v, rfl, her, hb⟩
  have hg := (hb.block w.heap.size (by simp; omega)).trans ((Below.heap_alloc _ _ _ (by simp)).trans (alloc_last w (.cells #[.int .u64 0, .int .u64 0, .int .u64 0, .int .u64 0] 53)))
  obtain ⟨⟨c0, c1, c2, c3⟩, ⟨g0, g1, g2, g3⟩, hgz⟩ := cells4 hg
  have HER := Lib.hid her
  have HB := Lib.hid hb
  clear hg her hb
  go_wp2
  refine bodyPost_ret (by simp [results, Tryd.results29, go_sem, c0, c1, c2, c3]; rfl) rfl ⟨_, by unfold SV; rw [item_no.1, item_no.2.1, item_no.2.2.1, item_no.2.2.2], ErrS.lower (ErrS.set (ErrS.set (ErrS.set (ErrS.set HER.out w.heap.size 0 _ (by simp; omega)) w.heap.size 1 _ (by simp; omega)) w.heap.size 2 _ (by simp; omega)) w.heap.size 3 _ (by simp; omega)) (by simp; omega), ?_⟩
  exact (((((((Below.refl _ _).alloc (Nat.le_refl _) _).alloc (by simp) _).trans (HB.out.mono (by simp; omega))).setCell (by simp) _).setCell (by simp) _).setCell (by simp) _).setCell (by simp) _
theorem lt_blkB {w : World} {g : Nat} {o : Obj} (h : w.heap[g]? = some o) : g < w.heap.size := by
  rcases Nat.lt_or_ge g w.heap.size with h' | h'
  · exact h'
  · rw [Array.getElem?_eq_none h'] at h; cases h
theorem blk_putB {V : World} {b : Nat} {a0 a1 a2 a3 : Value} (q : Nat → Bool) {t : TypeId} (h : V.heap[b]? = some (.cells #[a0, a1, a2, a3] t)) :
    ((((V.setCell ⟨b, 0, none⟩ (.int .u64 (sw q 0 : Nat))).setCell ⟨b, 1, none⟩ (.int .u64 (sw q 1 : Nat))).setCell ⟨b, 2, none⟩ (.int .u64 (sw q 2 : Nat))).setCell ⟨b, 3, none⟩ (.int .u64 (sw q 3 : Nat))).heap[b]? = some (.cells #[.int .u64 (sw q 0 : Nat), .int .u64 (sw q 1 : Nat), .int .u64 (sw q 2 : Nat), .int .u64 (sw q 3 : Nat)] t) := by
  have st : ∀ (X : World) (cs : Array Value) (i : Nat) (v : Value), X.heap[b]? = some (.cells cs t) → (X.setCell ⟨b, i, none⟩ v).heap[b]? = some (.cells (cs.setIfInBounds i v) t) := fun X cs i v hx => by
    show (X.heap.modify b _)[b]? = _
    rw [Array.getElem?_modify, if_pos rfl, hx]
    rfl
  have := st _ _ 3 (.int .u64 (sw q 3 : Nat)) (st _ _ 2 (.int .u64 (sw q 2 : Nat)) (st _ _ 1 (.int .u64 (sw q 1 : Nat)) (st _ _ 0 (.int .u64 (sw q 0 : Nat)) h)))
  simpa using this
theorem Rdr.set {w : World} {rb cb : Nat} {s : ByteArray} {k ah : Nat} {lg : Int} (h : Rdr w rb cb s k ah lg) (g i : Nat) (v : Value) (h1 : rb ≠ g) (h2 : cb ≠ g) : Rdr (w.setCell ⟨g, i, none⟩ v) rb cb s k ah lg :=
  ⟨(Below.heap_setCell _ _ _ _ (by simpa using h1)).trans h.1, ⟨(Below.heap_setCell _ _ _ _ (by simpa using h2)).trans h.2.1.1, h.2.1.2⟩, h.2.2⟩

set_option maxRecDepth 100000 in
set_option maxHeartbeats 16000000 in
theorem bkt_runA (cf : ByteArray → (Nat → Bool) × Bool) (hcf : ClassOk cf) (e : Nat → Addr) (x o cap : Nat) (l : List Int) (k : Nat) (lg : Int) (hb47 : l.length ≤ 140737488351232) (w : World) (he : Es w w.heap.size e) (hs : Sl w (.slice (some ⟨x, o, none⟩) l.length cap) l) (hk : k ≤ l.length) (hcap : k < cap) (hlc : l.length ≤ cap) (hcm : cap ≤ 9223372036854775807) (hr : Row w x o l) (hlg : lg = 2 ∨ lg = 3 ∨ lg = 4) :
    Calls Tryd.prog 29 #[.slice (some ⟨x, o, none⟩) l.length cap, .int .i64 k, .int .i64 lg] w (BkPost (brkR cf (ofBys (l.drop k)) (decide (lg = 2)) 0) e k lg w) := by
  have hlen := hs.2.1
  have HE := Lib.hid he
  have HSD : Hid (Sl w (.slice (some ⟨x, o + k, none⟩) (l.length - k) (cap - k)) (l.drop k)) := Lib.hid (Sl.drop hs.1 hs.2.1 hlc hcm hr k hk)
  have HCF := Lib.hid hcf
  have HH : ∀ w, Hid (Calls Tryd.prog 51 #[.int .i64 lg] w fun e w' => e = .returned (.bool true) ∧ w = w') := fun w => Lib.hid (hasB_any lg w hlg)
  have hkI : (k : Int) ≤ (l.length : Int) := by omega
  have hk0 : (0 : Int) ≤ (k : Int) := by omega
  have hsb : (ofBys (l.drop k)).size + k ≤ 140737488351232 := by rw [ofBys_size, List.length_drop]; omega
  have hld : (l.drop k).length ≤ 140737488351232 := by rw [List.length_drop]; omega
  clear hs he hlg hcf
  go_enter Tryd.func29, Tryd.ntmps29
  go_wp2_with fail
  refine (HH _).out.mono ?_
  rintro e' w' ⟨rfl, rfl⟩
  go_wp2_with fail
  have HSA := Lib.hid (HSD.out.below (((Below.refl w.heap.size w).alloc (Nat.le_refl _) (.cells #[.int .u64 0, .int .u64 0, .int .u64 0, .int .u64 0] 53)).alloc (by simp) (.cells #[.pointer none, .int .i64 0, .int .i64 lg] 89)))
  refine (cnew_any _ (l.drop k) _ HSA.out).mono ?_
  rintro e' w' ⟨rfl, rfl⟩
  go_wp2_with fail
  obtain ⟨V, hV⟩ : ∃ V, V = (((w.alloc (.cells #[.int .u64 0, .int .u64 0, .int .u64 0, .int .u64 0] 53)).alloc (.cells #[.pointer (some ⟨w.heap.size + 1 + 1, 0, none⟩), .int .i64 k, .int .i64 lg] 89)).alloc (.cells #[.string (ofBys (l.drop k)), .int .i64 0] 124)) := ⟨_, rfl⟩
  rw [← hV]
  have HBV : Hid (Below (w.heap.size + 1) (w.alloc (.cells #[.int .u64 0, .int .u64 0, .int .u64 0, .int .u64 0] 53)) V) := Lib.hid (by rw [hV]; exact ((Below.refl _ _).alloc (by simp) _).alloc (by simp) _)
  have HBW : Hid (Below w.heap.size w V) := Lib.hid (((Below.refl _ _).alloc (Nat.le_refl _) _).trans (HBV.out.mono (Nat.le_succ _)))
  have hvz : V.heap.size = w.heap.size + 1 + 1 + 1 := by rw [hV]; simp
  have HR : Hid (Rdr V (w.heap.size + 1) (w.heap.size + 1 + 1) (ofBys (l.drop k)) 0 k lg) := by
    refine Lib.hid ⟨?_, ⟨?_, by omega, by omega⟩, by omega, by omega⟩
    · rw [hV, Below.heap_alloc _ _ _ (by simp)]
      have := alloc_last (w.alloc (.cells #[.int .u64 0, .int .u64 0, .int .u64 0, .int .u64 0] 53)) (.cells #[.pointer (some ⟨w.heap.size + 1 + 1, 0, none⟩), .int .i64 k, .int .i64 lg] 89)
      simpa using this
    · rw [hV]
      have := alloc_last ((w.alloc (.cells #[.int .u64 0, .int .u64 0, .int .u64 0, .int .u64 0] 53)).alloc (.cells #[.pointer (some ⟨w.heap.size + 1 + 1, 0, none⟩), .int .i64 k, .int .i64 lg] 89)) (.cells #[.string (ofBys (l.drop k)), .int .i64 0] 124)
      simpa using this
  have HEV : Hid (Es V (w.heap.size + 1 + 1) e) := Lib.hid ⟨(HE.out.below HBW.out).var, by have := HE.out.low; omega, by omega⟩
  clear hV
  have HBK := Lib.hid (brk_any cf HCF.out e (w.heap.size + 1) (w.heap.size + 1 + 1) (ofBys (l.drop k)) 0 k lg (by omega) V HEV.out HR.out)
  have HG : ∀ w', Below (w.heap.size + 1) (w.alloc (.cells #[.int .u64 0, .int .u64 0, .int .u64 0, .int .u64 0] 53)) w' → w'.heap[w.heap.size]? = some (.cells #[.int .u64 0, .int .u64 0, .int .u64 0, .int .u64 0] 53) := fun w' hb => (hb.block _ (Nat.lt_succ_self _)).trans (alloc_last w _)
  have HGH := Lib.hid HG
  clear HG
  cases hbr : brkR cf (ofBys (l.drop k)) (decide (lg = 2)) 0 with
  | bad c pos =>
    rw [hbr] at HBK
    have HBR := Lib.hid hbr
    clear hbr
    refine HBK.out.mono ?_
    rintro e' w1 ⟨v, k', rfl, hm, her⟩
    have HB1 : Hid (Below (w.heap.size + 1) (w.alloc (.cells #[.int .u64 0, .int .u64 0, .int .u64 0, .int .u64 0] 53)) w1) := Lib.hid (HBV.out.trans (hm.1.mono (by omega)))
    have HER := Lib.hid her
    obtain ⟨kk, rfl⟩ := her.iface
    obtain ⟨⟨c0, c1, c2, c3⟩, ⟨g0, g1, g2, g3⟩, hgz⟩ := cells4 (HGH.out w1 HB1.out)
    clear hm her
    unfold SV
    go_wp2
    refine bodyPost_ret (by simp [results, Tryd.results29, go_sem, c0, c1, c2, c3, hgz]; rfl) rfl ?_
    rw [HBR.out]
    refine ⟨_, by unfold SV; rw [item_no.1, item_no.2.1, item_no.2.2.1, item_no.2.2.2], ErrS.lower (ErrS.below (ErrS.set (ErrS.set (ErrS.set (ErrS.set HER.out w.heap.size 0 _ (by omega)) w.heap.size 1 _ (by omega)) w.heap.size 2 _ (by omega)) w.heap.size 3 _ (by omega)) ((Below.refl _ _).alloc (Nat.le_refl _) _)) (by omega), ?_⟩
    exact (((((((Below.refl w.heap.size w).alloc (Nat.le_refl _) _).trans (HB1.out.mono (Nat.le_succ _))).setCell (p := ⟨w.heap.size, 0, none⟩) (Nat.le_refl _) _).setCell (p := ⟨w.heap.size, 1, none⟩) (Nat.le_refl _) _).setCell (p := ⟨w.heap.size, 2, none⟩) (Nat.le_refl _) _).setCell (p := ⟨w.heap.size, 3, none⟩) (Nat.le_refl _) _).alloc (by simp; omega) _
  | ok p nx =>
    rw [hbr] at HBK
    have HBR := Lib.hid hbr
    clear hbr
    refine HBK.out.mono ?_
    rintro e' w1 ⟨rfl, hm⟩
    have HB1 : Hid (Below (w.heap.size + 1) (w.alloc (.cells #[.int .u64 0, .int .u64 0, .int .u64 0, .int .u64 0] 53)) w1) := Lib.hid (HBV.out.trans (hm.1.mono (by omega)))
    have HR1 := Lib.hid (HR.out.mv hm)
    have hw1 : w.heap.size + 1 + 1 < w1.heap.size := HR1.out.lt.2
    clear hm
    unfold SV
    go_wp2_with fail
    obtain ⟨w2, hV⟩ : ∃ V, V = w1.alloc (.cells #[.int .u64 (sw p 0 : Nat), .int .u64 (sw p 1 : Nat), .int .u64 (sw p 2 : Nat), .int .u64 (sw p 3 : Nat)] 53) := ⟨_, rfl⟩
    rw [← hV]
    have HS0 : Hid (Below w.heap.size w w2 ∧ (∃ a b c d, w2.heap[w.heap.size]? = some (.cells #[a, b, c, d] 53)) ∧ Rdr w2 (w.heap.size + 1) (w.heap.size + 1 + 1) (ofBys (l.drop k)) nx k lg ∧ w2.heap[w1.heap.size]? = some (.cells #[.int .u64 (sw p 0 : Nat), .int .u64 (sw p 1 : Nat), .int .u64 (sw p 2 : Nat), .int .u64 (sw p 3 : Nat)] 53)) := by
      refine Lib.hid ⟨?_, ⟨_, _, _, _, HGH.out w2 ?_⟩, ?_, ?_⟩
      · rw [hV]; exact (((Below.refl _ _).alloc (Nat.le_refl _) _).trans (HB1.out.mono (Nat.le_succ _))).alloc (by omega) _
      · rw [hV]; exact HB1.out.alloc (by omega) _
      · rw [hV]; exact HR1.out.mv (Mv.below HR1.out.2.1 ((Below.refl _ _).alloc (Nat.le_refl _) _))
      · rw [hV]; exact alloc_last _ _
    clear hV
    refine Reg.wp_region_vals (fun X => Below w.heap.size w X ∧ (∃ a b c d, X.heap[w.heap.size]? = some (.cells #[a, b, c, d] 53)) ∧ Rdr X (w.heap.size + 1) (w.heap.size + 1 + 1) (ofBys (l.drop k)) nx k lg ∧ X.heap[w1.heap.size]? = some (.cells #[.int .u64 (sw p 0 : Nat), .int .u64 (sw p 1 : Nat), .int .u64 (sw p 2 : Nat), .int .u64 (sw p 3 : Nat)] 53)) (fun j => ([some (.agg #[.int .u64 (sw p 0 : Nat), .int .u64 (sw p 1 : Nat), .int .u64 (sw p 2 : Nat), .int .u64 (sw p 3 : Nat)]), some (.pointer (some ⟨w.heap.size + 1, 0, none⟩)), some (.int .i64 (k + nx : Nat)), none, some (.int .i64 (k + nx : Nat)), some (.nilIface)] : List (Option Value)).getD j none) (fun j _ X => j = 3 → X.heap[w.heap.size]? = some (.cells #[.int .u64 (sw p 0 : Nat), .int .u64 (sw p 1 : Nat), .int .u64 (sw p 2 : Nat), .int .u64 (sw p 3 : Nat)] 53)) (by kernel_rfl) (by kernel_rfl) (by kernel_rfl) (by kernel_rfl) ?rs0 ?rsE ?rsZ
    case rs0 => exact ⟨HS0.out.1.drew, HS0.out.2.1, HS0.out.2.2.1, HS0.out.2.2.2⟩
    case rsE =>
      refine Reg.EachV.plain rfl (fun T X hS hk K hK => ?_) ?_
      · skip
        have g10 : T[10]? = some (.pointer (some ⟨w1.heap.size, 0, none⟩)) := hk.old 10 (by kernel_rfl) rfl
        obtain ⟨⟨y0, y1, y2, y3⟩, _, _⟩ := cells4 hS.2.2.2
        have hK := hK _ X hS (Reg.Is.of_val rfl) (fun _ _ _ h => h)
        clear hk
        go_simp
        exact hK
      refine Reg.EachV.plain rfl (fun T X hS hk K hK => ?_) ?_
      · skip
        have g9 : T[9]? = some (.pointer (some ⟨w.heap.size + 1, 0, none⟩)) := hk.old 9 (by kernel_rfl) rfl
        have hK := hK _ X hS (Reg.Is.of_val rfl) (fun _ _ _ h => h)
        clear hk
        go_simp
        exact hK
      refine Reg.EachV.plain rfl (fun T X hS hk K hK => ?_) ?_
      · skip
        have g52 : T[52]? = some (.pointer (some ⟨w.heap.size + 1, 0, none⟩)) := hk.val 1 52 (by kernel_rfl) (by kernel_rfl) rfl
        have hpl := place_any (w.heap.size + 1) (w.heap.size + 1 + 1) (ofBys (l.drop k)) nx k lg X hS.2.2.1
        clear hk
        go_simp
        refine hpl.mono ?_
        rintro e' w3 ⟨rfl, hm⟩
        have hl := hS.2.2.1.lt
        have hgl := lt_blkB hS.2.2.2
        obtain ⟨a, b, c, d, hg⟩ := hS.2.1
        have hgz := lt_blkB hg
        exact hK _ _ ⟨hS.1.trans (hm.1.mono (by omega)), ⟨a, b, c, d, (hm.2.2 _ hgz (by omega)).trans hg⟩, hS.2.2.1.mv hm, (hm.2.2 _ hgl (by omega)).trans hS.2.2.2⟩ (Reg.Is.of_val (by rfl)) (fun j x _ h3 hj => (hm.2.2 _ hgz (by omega)).trans (h3 hj))
      refine Reg.EachV.plain rfl (fun T X hS hk K hK => ?_) ?_
      · skip
        have g6 : T[6]? = some (.pointer (some ⟨w.heap.size, 0, none⟩)) := hk.old 6 (by kernel_rfl) rfl
        have g51 : T[51]? = some (.agg #[.int .u64 (sw p 0 : Nat), .int .u64 (sw p 1 : Nat), .int .u64 (sw p 2 : Nat), .int .u64 (sw p 3 : Nat)]) := hk.val 0 51 (by kernel_rfl) (by kernel_rfl) rfl
        obtain ⟨a, b, c, d, hg⟩ := hS.2.1
        obtain ⟨_, ⟨f0, f1, f2, f3⟩, hgz⟩ := cells4 hg
        obtain ⟨⟨z0, z1, z2, z3⟩, _, _⟩ := cells4 hg
        have hp := blk_putB p hg
        clear hk
        go_simp
        refine hK undef _ ⟨(((hS.1.setCell (p := ⟨w.heap.size, 0, none⟩) (Nat.le_refl _) _).setCell (p := ⟨w.heap.size, 1, none⟩) (Nat.le_refl _) _).setCell (p := ⟨w.heap.size, 2, none⟩) (Nat.le_refl _) _).setCell (p := ⟨w.heap.size, 3, none⟩) (Nat.le_refl _) _, ⟨_, _, _, _, hp⟩, (((hS.2.2.1.set w.heap.size 0 _ (by omega) (by omega)).set w.heap.size 1 _ (by omega) (by omega)).set w.heap.size 2 _ (by omega) (by omega)).set w.heap.size 3 _ (by omega) (by omega), ?_⟩ (Reg.Is.of_prop rfl fun _ => hp) (fun _ _ _ _ _ => hp)
        rw [Below.heap_setCell _ _ _ _ (by simp; omega), Below.heap_setCell _ _ _ _ (by simp; omega), Below.heap_setCell _ _ _ _ (by simp; omega), Below.heap_setCell _ _ _ _ (by simp; omega)]
        exact hS.2.2.2
      refine Reg.EachV.plain rfl (fun T X hS hk K hK => ?_) ?_
      · skip
        have g53 : T[53]? = some (.int .i64 (k + nx : Nat)) := hk.val 2 53 (by kernel_rfl) (by kernel_rfl) rfl
        have hK := hK _ X hS (Reg.Is.of_val rfl) (fun _ _ _ h => h)
        clear hk
        go_simp
        exact hK
      refine Reg.EachV.plain rfl (fun T X hS hk K hK => ?_) ?_
      · skip
        have hK := hK _ X hS (Reg.Is.of_val rfl) (fun _ _ _ h => h)
        clear hk
        go_simp
        exact hK
      exact Reg.EachV.nil
    case rsZ =>
      intro u w1 hS hI
      have e0 : u 0 = .agg #[.int .u64 (sw p 0 : Nat), .int .u64 (sw p 1 : Nat), .int .u64 (sw p 2 : Nat), .int .u64 (sw p 3 : Nat)] := (hI 0 (by decide)).val rfl
      have e1 : u 1 = .pointer (some ⟨w.heap.size + 1, 0, none⟩) := (hI 1 (by decide)).val rfl
      have e2 : u 2 = .int .i64 (k + nx : Nat) := (hI 2 (by decide)).val rfl
      have e3 := (hI 3 (by decide)).prop rfl
      have e4 : u 4 = .int .i64 (k + nx : Nat) := (hI 4 (by decide)).val rfl
      have e5 : u 5 = .nilIface := (hI 5 (by decide)).val rfl
      clear hI
      simp only [Reg.putAll, Act.put, List.setIfInBounds_toArray, List.set_cons_succ, List.set_cons_zero, Nat.zero_add, Nat.reduceAdd, e0, e1, e2, e4, e5]
      clear e0 e1 e2 e4 e5
      have hg := e3 rfl
      obtain ⟨⟨c0, c1, c2, c3⟩, _, _⟩ := cells4 hg
      have HBF := Lib.hid hS.1
      clear e3 hS
      go_wp2
      exact bodyPost_ret (by simp [results, Tryd.results29, go_sem, c0, c1, c2, c3]; rfl) rfl (by rw [HBR.out]; exact ⟨rfl, HBF.out⟩)
set_option maxRecDepth 100000 in
set_option maxHeartbeats 16000000 in
theorem bkt_runB (cf : ByteArray → (Nat → Bool) × Bool) (hcf : ClassOk cf) (e : Nat → Addr) (x o : Nat) (l : List Int) (k : Nat) (lg : Int) (hb47 : l.length ≤ 140737488351232) (w : World) (he : Es w w.heap.size e) (hs : Sl w (.slice (some ⟨x, o, none⟩) k k) l) (hlc : l.length = k) (hlg : lg = 2 ∨ lg = 3 ∨ lg = 4) :
    Calls Tryd.prog 29 #[.slice (some ⟨x, o, none⟩) k k, .int .i64 k, .int .i64 lg] w (BkPost (brkR cf (ofBys (l.drop k)) (decide (lg = 2)) 0) e k lg w) := by
  have hlen := hs.2.1
  have HE := Lib.hid he
  have HSD : Hid (Sl w (.slice (some ⟨x, o, none⟩) 0 0) (l.drop k)) := Lib.hid (⟨fun i => by simp [List.drop_of_length_le (Nat.le_of_eq hlc)], by simp [List.drop_of_length_le (Nat.le_of_eq hlc)], Or.inl ⟨List.drop_of_length_le (Nat.le_of_eq hlc), _, _, rfl⟩⟩)
  have HCF := Lib.hid hcf
  have HH : ∀ w, Hid (Calls Tryd.prog 51 #[.int .i64 lg] w fun e w' => e = .returned (.bool true) ∧ w = w') := fun w => Lib.hid (hasB_any lg w hlg)
  have hkI : (k : Int) ≤ (l.length : Int) := by omega
  have hk0 : (0 : Int) ≤ (k : Int) := by omega
  have hsb : (ofBys (l.drop k)).size + k ≤ 140737488351232 := by rw [ofBys_size, List.length_drop]; omega
  have hld : (l.drop k).length ≤ 140737488351232 := by rw [List.length_drop]; omega
  clear hs he hlg hcf
  go_enter Tryd.func29, Tryd.ntmps29
  go_wp2_with fail
  refine (HH _).out.mono ?_
  rintro e' w' ⟨rfl, rfl⟩
  go_wp2_with fail
  have HSA := Lib.hid (HSD.out.below (((Below.refl w.heap.size w).alloc (Nat.le_refl _) (.cells #[.int .u64 0, .int .u64 0, .int .u64 0, .int .u64 0] 53)).alloc (by simp) (.cells #[.pointer none, .int .i64 0, .int .i64 lg] 89)))
  refine (cnew_any _ (l.drop k) _ HSA.out).mono ?_
  rintro e' w' ⟨rfl, rfl⟩
  go_wp2_with fail
  obtain ⟨V, hV⟩ : ∃ V, V = (((w.alloc (.cells #[.int .u64 0, .int .u64 0, .int .u64 0, .int .u64 0] 53)).alloc (.cells #[.pointer (some ⟨w.heap.size + 1 + 1, 0, none⟩), .int .i64 k, .int .i64 lg] 89)).alloc (.cells #[.string (ofBys (l.drop k)), .int .i64 0] 124)) := ⟨_, rfl⟩
  rw [← hV]
  have HBV : Hid (Below (w.heap.size + 1) (w.alloc (.cells #[.int .u64 0, .int .u64 0, .int .u64 0, .int .u64 0] 53)) V) := Lib.hid (by rw [hV]; exact ((Below.refl _ _).alloc (by simp) _).alloc (by simp) _)
  have HBW : Hid (Below w.heap.size w V) := Lib.hid (((Below.refl _ _).alloc (Nat.le_refl _) _).trans (HBV.out.mono (Nat.le_succ _)))
  have hvz : V.heap.size = w.heap.size + 1 + 1 + 1 := by rw [hV]; simp
  have HR : Hid (Rdr V (w.heap.size + 1) (w.heap.size + 1 + 1) (ofBys (l.drop k)) 0 k lg) := by
    refine Lib.hid ⟨?_, ⟨?_, by omega, by omega⟩, by omega, by omega⟩
    · rw [hV, Below.heap_alloc _ _ _ (by simp)]
      have := alloc_last (w.alloc (.cells #[.int .u64 0, .int .u64 0, .int .u64 0, .int .u64 0] 53)) (.cells #[.pointer (some ⟨w.heap.size + 1 + 1, 0, none⟩), .int .i64 k, .int .i64 lg] 89)
      simpa using this
    · rw [hV]
      have := alloc_last ((w.alloc (.cells #[.int .u64 0, .int .u64 0, .int .u64 0, .int .u64 0] 53)).alloc (.cells #[.pointer (some ⟨w.heap.size + 1 + 1, 0, none⟩), .int .i64 k, .int .i64 lg] 89)) (.cells #[.string (ofBys (l.drop k)), .int .i64 0] 124)
      simpa using this
  have HEV : Hid (Es V (w.heap.size + 1 + 1) e) := Lib.hid ⟨(HE.out.below HBW.out).var, by have := HE.out.low; omega, by omega⟩
  clear hV
  have HBK := Lib.hid (brk_any cf HCF.out e (w.heap.size + 1) (w.heap.size + 1 + 1) (ofBys (l.drop k)) 0 k lg (by omega) V HEV.out HR.out)
  have HG : ∀ w', Below (w.heap.size + 1) (w.alloc (.cells #[.int .u64 0, .int .u64 0, .int .u64 0, .int .u64 0] 53)) w' → w'.heap[w.heap.size]? = some (.cells #[.int .u64 0, .int .u64 0, .int .u64 0, .int .u64 0] 53) := fun w' hb => (hb.block _ (Nat.lt_succ_self _)).trans (alloc_last w _)
  have HGH := Lib.hid HG
  clear HG
  cases hbr : brkR cf (ofBys (l.drop k)) (decide (lg = 2)) 0 with
  | bad c pos =>
    rw [hbr] at HBK
    have HBR := Lib.hid hbr
    clear hbr
    refine HBK.out.mono ?_
    rintro e' w1 ⟨v, k', rfl, hm, her⟩
    have HB1 : Hid (Below (w.heap.size + 1) (w.alloc (.cells #[.int .u64 0, .int .u64 0, .int .u64 0, .int .u64 0] 53)) w1) := Lib.hid (HBV.out.trans (hm.1.mono (by omega)))
    have HER := Lib.hid her
    obtain ⟨kk, rfl⟩ := her.iface
    obtain ⟨⟨c0, c1, c2, c3⟩, ⟨g0, g1, g2, g3⟩, hgz⟩ := cells4 (HGH.out w1 HB1.out)
    clear hm her
    unfold SV
    go_wp2
    refine bodyPost_ret (by simp [results, Tryd.results29, go_sem, c0, c1, c2, c3, hgz]; rfl) rfl ?_
    rw [HBR.out]
    refine ⟨_, by unfold SV; rw [item_no.1, item_no.2.1, item_no.2.2.1, item_no.2.2.2], ErrS.lower (ErrS.below (ErrS.set (ErrS.set (ErrS.set (ErrS.set HER.out w.heap.size 0 _ (by omega)) w.heap.size 1 _ (by omega)) w.heap.size 2 _ (by omega)) w.heap.size 3 _ (by omega)) ((Below.refl _ _).alloc (Nat.le_refl _) _)) (by omega), ?_⟩
    exact (((((((Below.refl w.heap.size w).alloc (Nat.le_refl _) _).trans (HB1.out.mono (Nat.le_succ _))).setCell (p := ⟨w.heap.size, 0, none⟩) (Nat.le_refl _) _).setCell (p := ⟨w.heap.size, 1, none⟩) (Nat.le_refl _) _).setCell (p := ⟨w.heap.size, 2, none⟩) (Nat.le_refl _) _).setCell (p := ⟨w.heap.size, 3, none⟩) (Nat.le_refl _) _).alloc (by simp; omega) _
  | ok p nx =>
    rw [hbr] at HBK
    have HBR := Lib.hid hbr
    clear hbr
    refine HBK.out.mono ?_
    rintro e' w1 ⟨rfl, hm⟩
    have HB1 : Hid (Below (w.heap.size + 1) (w.alloc (.cells #[.int .u64 0, .int .u64 0, .int .u64 0, .int .u64 0] 53)) w1) := Lib.hid (HBV.out.trans (hm.1.mono (by omega)))
    have HR1 := Lib.hid (HR.out.mv hm)
    have hw1 : w.heap.size + 1 + 1 < w1.heap.size := HR1.out.lt.2
    clear hm
    unfold SV
    go_wp2_with fail
    obtain ⟨w2, hV⟩ : ∃ V, V = w1.alloc (.cells #[.int .u64 (sw p 0 : Nat), .int .u64 (sw p 1 : Nat), .int .u64 (sw p 2 : Nat), .int .u64 (sw p 3 : Nat)] 53) := ⟨_, rfl⟩
    rw [← hV]
    have HS0 : Hid (Below w.heap.size w w2 ∧ (∃ a b c d, w2.heap[w.heap.size]? = some (.cells #[a, b, c, d] 53)) ∧ Rdr w2 (w.heap.size + 1) (w.heap.size + 1 + 1) (ofBys (l.drop k)) nx k lg ∧ w2.heap[w1.heap.size]? = some (.cells #[.int .u64 (sw p 0 : Nat), .int .u64 (sw p 1 : Nat), .int .u64 (sw p 2 : Nat), .int .u64 (sw p 3 : Nat)] 53)) := by
      refine Lib.hid ⟨?_, ⟨_, _, _, _, HGH.out w2 ?_⟩, ?_, ?_⟩
      · rw [hV]; exact (((Below.refl _ _).alloc (Nat.le_refl _) _).trans (HB1.out.mono (Nat.le_succ _))).alloc (by omega) _
      · rw [hV]; exact HB1.out.alloc (by omega) _
      · rw [hV]; exact HR1.out.mv (Mv.below HR1.out.2.1 ((Below.refl _ _).alloc (Nat.le_refl _) _))
      · rw [hV]; exact alloc_last _ _
    clear hV
    refine Reg.wp_region_vals (fun X => Below w.heap.size w X ∧ (∃ a b c d, X.heap[w.heap.size]? = some (.cells #[a, b, c, d] 53)) ∧ Rdr X (w.heap.size + 1) (w.heap.size + 1 + 1) (ofBys (l.drop k)) nx k lg ∧ X.heap[w1.heap.size]? = some (.cells #[.int .u64 (sw p 0 : Nat), .int .u64 (sw p 1 : Nat), .int .u64 (sw p 2 : Nat), .int .u64 (sw p 3 : Nat)] 53)) (fun j => ([some (.agg #[.int .u64 (sw p 0 : Nat), .int .u64 (sw p 1 : Nat), .int .u64 (sw p 2 : Nat), .int .u64 (sw p 3 : Nat)]), some (.pointer (some ⟨w.heap.size + 1, 0, none⟩)), some (.int .i64 (k + nx : Nat)), none, some (.int .i64 (k + nx : Nat)), some (.nilIface)] : List (Option Value)).getD j none) (fun j _ X => j = 3 → X.heap[w.heap.size]? = some (.cells #[.int .u64 (sw p 0 : Nat), .int .u64 (sw p 1 : Nat), .int .u64 (sw p 2 : Nat), .int .u64 (sw p 3 : Nat)] 53)) (by kernel_rfl) (by kernel_rfl) (by kernel_rfl) (by kernel_rfl) ?rs0 ?rsE ?rsZ
    case rs0 => exact ⟨HS0.out.1.drew, HS0.out.2.1, HS0.out.2.2.1, HS0.out.2.2.2⟩
    case rsE =>
      refine Reg.EachV.plain rfl (fun T X hS hk K hK => ?_) ?_
      · skip
        have g10 : T[10]? = some (.pointer (some ⟨w1.heap.size, 0, none⟩)) := hk.old 10 (by kernel_rfl) rfl
        obtain ⟨⟨y0, y1, y2, y3⟩, _, _⟩ := cells4 hS.2.2.2
        have hK := hK _ X hS (Reg.Is.of_val rfl) (fun _ _ _ h => h)
        clear hk
        go_simp
        exact hK
      refine Reg.EachV.plain rfl (fun T X hS hk K hK => ?_) ?_
      · skip
        have g9 : T[9]? = some (.pointer (some ⟨w.heap.size + 1, 0, none⟩)) := hk.old 9 (by kernel_rfl) rfl
        have hK := hK _ X hS (Reg.Is.of_val rfl) (fun _ _ _ h => h)
        clear hk
        go_simp
        exact hK
      refine Reg.EachV.plain rfl (fun T X hS hk K hK => ?_) ?_
      · skip
        have g52 : T[52]? = some (.pointer (some ⟨w.heap.size + 1, 0, none⟩)) := hk.val 1 52 (by kernel_rfl) (by kernel_rfl) rfl
        have hpl := place_any (w.heap.size + 1) (w.heap.size + 1 + 1) (ofBys (l.drop k)) nx k lg X hS.2.2.1
        clear hk
        go_simp
        refine hpl.mono ?_
        rintro e' w3 ⟨rfl, hm⟩
        have hl := hS.2.2.1.lt
        have hgl := lt_blkB hS.2.2.2
        obtain ⟨a, b, c, d, hg⟩ := hS.2.1
        have hgz := lt_blkB hg
        exact hK _ _ ⟨hS.1.trans (hm.1.mono (by omega)), ⟨a, b, c, d, (hm.2.2 _ hgz (by omega)).trans hg⟩, hS.2.2.1.mv hm, (hm.2.2 _ hgl (by omega)).trans hS.2.2.2⟩ (Reg.Is.of_val (by rfl)) (fun j x _ h3 hj => (hm.2.2 _ hgz (by omega)).trans (h3 hj))
      refine Reg.EachV.plain rfl (fun T X hS hk K hK => ?_) ?_
      · skip
        have g6 : T[6]? = some (.pointer (some ⟨w.heap.size, 0, none⟩)) := hk.old 6 (by kernel_rfl) rfl
        have g51 : T[51]? = some (.agg #[.int .u64 (sw p 0 : Nat), .int .u64 (sw p 1 : Nat), .int .u64 (sw p 2 : Nat), .int .u64 (sw p 3 : Nat)]) := hk.val 0 51 (by kernel_rfl) (by kernel_rfl) rfl
        obtain ⟨a, b, c, d, hg⟩ := hS.2.1
        obtain ⟨_, ⟨f0, f1, f2, f3⟩, hgz⟩ := cells4 hg
        obtain ⟨⟨z0, z1, z2, z3⟩, _, _⟩ := cells4 hg
        have hp := blk_putB p hg
        clear hk
        go_simp
        refine hK undef _ ⟨(((hS.1.setCell (p := ⟨w.heap.size, 0, none⟩) (Nat.le_refl _) _).setCell (p := ⟨w.heap.size, 1, none⟩) (Nat.le_refl _) _).setCell (p := ⟨w.heap.size, 2, none⟩) (Nat.le_refl _) _).setCell (p := ⟨w.heap.size, 3, none⟩) (Nat.le_refl _) _, ⟨_, _, _, _, hp⟩, (((hS.2.2.1.set w.heap.size 0 _ (by omega) (by omega)).set w.heap.size 1 _ (by omega) (by omega)).set w.heap.size 2 _ (by omega) (by omega)).set w.heap.size 3 _ (by omega) (by omega), ?_⟩ (Reg.Is.of_prop rfl fun _ => hp) (fun _ _ _ _ _ => hp)
        rw [Below.heap_setCell _ _ _ _ (by simp; omega), Below.heap_setCell _ _ _ _ (by simp; omega), Below.heap_setCell _ _ _ _ (by simp; omega), Below.heap_setCell _ _ _ _ (by simp; omega)]
        exact hS.2.2.2
      refine Reg.EachV.plain rfl (fun T X hS hk K hK => ?_) ?_
      · skip
        have g53 : T[53]? = some (.int .i64 (k + nx : Nat)) := hk.val 2 53 (by kernel_rfl) (by kernel_rfl) rfl
        have hK := hK _ X hS (Reg.Is.of_val rfl) (fun _ _ _ h => h)
        clear hk
        go_simp
        exact hK
      refine Reg.EachV.plain rfl (fun T X hS hk K hK => ?_) ?_
      · skip
        have hK := hK _ X hS (Reg.Is.of_val rfl) (fun _ _ _ h => h)
        clear hk
        go_simp
        exact hK
      exact Reg.EachV.nil
    case rsZ =>
      intro u w1 hS hI
      have e0 : u 0 = .agg #[.int .u64 (sw p 0 : Nat), .int .u64 (sw p 1 : Nat), .int .u64 (sw p 2 : Nat), .int .u64 (sw p 3 : Nat)] := (hI 0 (by decide)).val rfl
      have e1 : u 1 = .pointer (some ⟨w.heap.size + 1, 0, none⟩) := (hI 1 (by decide)).val rfl
      have e2 : u 2 = .int .i64 (k + nx : Nat) := (hI 2 (by decide)).val rfl
      have e3 := (hI 3 (by decide)).prop rfl
      have e4 : u 4 = .int .i64 (k + nx : Nat) := (hI 4 (by decide)).val rfl
      have e5 : u 5 = .nilIface := (hI 5 (by decide)).val rfl
      clear hI
      simp only [Reg.putAll, Act.put, List.setIfInBounds_toArray, List.set_cons_succ, List.set_cons_zero, Nat.zero_add, Nat.reduceAdd, e0, e1, e2, e4, e5]
      clear e0 e1 e2 e4 e5
      have hg := e3 rfl
      obtain ⟨⟨c0, c1, c2, c3⟩, _, _⟩ := cells4 hg
      have HBF := Lib.hid hS.1
      clear e3 hS
      go_wp2
      exact bodyPost_ret (by simp [results, Tryd.results29, go_sem, c0, c1, c2, c3]; rfl) rfl (by rw [HBR.out]; exact ⟨rfl, HBF.out⟩)
theorem place_anyZ (rb cb : Nat) (s : ByteArray) (k : Nat) (lg : Int) (w : World) (h : Rdr w rb cb s k 0 lg) :
    Calls Tryd.prog 55 #[.pointer (some ⟨rb, 0, none⟩)] w fun e w' => e = .returned (.int .i64 (k : Nat)) ∧ Mv cb s k w w' := by
  have := place_any rb cb s k 0 lg w h
  rwa [Nat.zero_add] at this
set_option maxRecDepth 100000 in
set_option maxHeartbeats 16000000 in
theorem bkt_runC (cf : ByteArray → (Nat → Bool) × Bool) (hcf : ClassOk cf) (e : Nat → Addr) (cap : Nat) (lg : Int) (w : World) (he : Es w w.heap.size e)   (hlg : lg = 2 ∨ lg = 3 ∨ lg = 4) :
    Calls Tryd.prog 29 #[.slice none 0 cap, .int .i64 0, .int .i64 lg] w (BkPost (brkR cf (ofBys ([] : List Int)) (decide (lg = 2)) 0) e 0 lg w) := by
  have HE := Lib.hid he
  have HSD : Hid (Sl w (.slice none 0 cap) ([] : List Int)) := Lib.hid (⟨fun i => by simp, by simp, Or.inl ⟨rfl, _, _, rfl⟩⟩)
  have HCF := Lib.hid hcf
  have HH : ∀ w, Hid (Calls Tryd.prog 51 #[.int .i64 lg] w fun e w' => e = .returned (.bool true) ∧ w = w') := fun w => Lib.hid (hasB_any lg w hlg)
  have hsb : (ofBys ([] : List Int)).size + 0 ≤ 140737488351232 := by simp [ofBys_size]
  have hld : ([] : List Int).length ≤ 140737488351232 := by simp
  clear he hlg hcf
  go_enter Tryd.func29, Tryd.ntmps29
  go_wp2_with fail
  refine (HH _).out.mono ?_
  rintro e' w' ⟨rfl, rfl⟩
  go_wp2_with fail
  have HSA := Lib.hid (HSD.out.below (((Below.refl w.heap.size w).alloc (Nat.le_refl _) (.cells #[.int .u64 0, .int .u64 0, .int .u64 0, .int .u64 0] 53)).alloc (by simp) (.cells #[.pointer none, .int .i64 0, .int .i64 lg] 89)))
  refine (cnew_any _ ([] : List Int) _ HSA.out).mono ?_
  rintro e' w' ⟨rfl, rfl⟩
  go_wp2_with fail
  obtain ⟨V, hV⟩ : ∃ V, V = (((w.alloc (.cells #[.int .u64 0, .int .u64 0, .int .u64 0, .int .u64 0] 53)).alloc (.cells #[.pointer (some ⟨w.heap.size + 1 + 1, 0, none⟩), .int .i64 0, .int .i64 lg] 89)).alloc (.cells #[.string (ofBys ([] : List Int)), .int .i64 0] 124)) := ⟨_, rfl⟩
  rw [← hV]
  have HBV : Hid (Below (w.heap.size + 1) (w.alloc (.cells #[.int .u64 0, .int .u64 0, .int .u64 0, .int .u64 0] 53)) V) := Lib.hid (by rw [hV]; exact ((Below.refl _ _).alloc (by simp) _).alloc (by simp) _)
  have HBW : Hid (Below w.heap.size w V) := Lib.hid (((Below.refl _ _).alloc (Nat.le_refl _) _).trans (HBV.out.mono (Nat.le_succ _)))
  have hvz : V.heap.size = w.heap.size + 1 + 1 + 1 := by rw [hV]; simp
  have HR : Hid (Rdr V (w.heap.size + 1) (w.heap.size + 1 + 1) (ofBys ([] : List Int)) 0 0 lg) := by
    refine Lib.hid ⟨?_, ⟨?_, by omega, by omega⟩, by omega, by omega⟩
    · rw [hV, Below.heap_alloc _ _ _ (by simp)]
      have := alloc_last (w.alloc (.cells #[.int .u64 0, .int .u64 0, .int .u64 0, .int .u64 0] 53)) (.cells #[.pointer (some ⟨w.heap.size + 1 + 1, 0, none⟩), .int .i64 0, .int .i64 lg] 89)
      simpa using this
    · rw [hV]
      have := alloc_last ((w.alloc (.cells #[.int .u64 0, .int .u64 0, .int .u64 0, .int .u64 0] 53)).alloc (.cells #[.pointer (some ⟨w.heap.size + 1 + 1, 0, none⟩), .int .i64 0, .int .i64 lg] 89)) (.cells #[.string (ofBys ([] : List Int)), .int .i64 0] 124)
      simpa using this
  have HEV : Hid (Es V (w.heap.size + 1 + 1) e) := Lib.hid ⟨(HE.out.below HBW.out).var, by have := HE.out.low; omega, by omega⟩
  clear hV
  have HBK := Lib.hid (brk_any cf HCF.out e (w.heap.size + 1) (w.heap.size + 1 + 1) (ofBys ([] : List Int)) 0 0 lg (by omega) V HEV.out HR.out)
  have HG : ∀ w', Below (w.heap.size + 1) (w.alloc (.cells #[.int .u64 0, .int .u64 0, .int .u64 0, .int .u64 0] 53)) w' → w'.heap[w.heap.size]? = some (.cells #[.int .u64 0, .int .u64 0, .int .u64 0, .int .u64 0] 53) := fun w' hb => (hb.block _ (Nat.lt_succ_self _)).trans (alloc_last w _)
  have HGH := Lib.hid HG
  clear HG
  cases hbr : brkR cf (ofBys ([] : List Int)) (decide (lg = 2)) 0 with
  | bad c pos =>
    rw [hbr] at HBK
    have HBR := Lib.hid hbr
    clear hbr
    refine HBK.out.mono ?_
    rintro e' w1 ⟨v, k', rfl, hm, her⟩
    have HB1 : Hid (Below (w.heap.size + 1) (w.alloc (.cells #[.int .u64 0, .int .u64 0, .int .u64 0, .int .u64 0] 53)) w1) := Lib.hid (HBV.out.trans (hm.1.mono (by omega)))
    have HER := Lib.hid her
    obtain ⟨kk, rfl⟩ := her.iface
    obtain ⟨⟨c0, c1, c2, c3⟩, ⟨g0, g1, g2, g3⟩, hgz⟩ := cells4 (HGH.out w1 HB1.out)
    clear hm her
    unfold SV
    go_wp2
    refine bodyPost_ret (by simp [results, Tryd.results29, go_sem, c0, c1, c2, c3, hgz]; rfl) rfl ?_
    rw [HBR.out]
    refine ⟨_, by unfold SV; rw [item_no.1, item_no.2.1, item_no.2.2.1, item_no.2.2.2], ErrS.lower (ErrS.below (ErrS.set (ErrS.set (ErrS.set (ErrS.set HER.out w.heap.size 0 _ (by omega)) w.heap.size 1 _ (by omega)) w.heap.size 2 _ (by omega)) w.heap.size 3 _ (by omega)) ((Below.refl _ _).alloc (Nat.le_refl _) _)) (by omega), ?_⟩
    exact (((((((Below.refl w.heap.size w).alloc (Nat.le_refl _) _).trans (HB1.out.mono (Nat.le_succ _))).setCell (p := ⟨w.heap.size, 0, none⟩) (Nat.le_refl _) _).setCell (p := ⟨w.heap.size, 1, none⟩) (Nat.le_refl _) _).setCell (p := ⟨w.heap.size, 2, none⟩) (Nat.le_refl _) _).setCell (p := ⟨w.heap.size, 3, none⟩) (Nat.le_refl _) _).alloc (by simp; omega) _
  | ok p nx =>
    rw [hbr] at HBK
    have HBR := Lib.hid hbr
    clear hbr
    refine HBK.out.mono ?_
    rintro e' w1 ⟨rfl, hm⟩
    have HB1 : Hid (Below (w.heap.size + 1) (w.alloc (.cells #[.int .u64 0, .int .u64 0, .int .u64 0, .int .u64 0] 53)) w1) := Lib.hid (HBV.out.trans (hm.1.mono (by omega)))
    have HR1 := Lib.hid (HR.out.mv hm)
    have hw1 : w.heap.size + 1 + 1 < w1.heap.size := HR1.out.lt.2
    clear hm
    unfold SV
    go_wp2_with fail
    obtain ⟨w2, hV⟩ : ∃ V, V = w1.alloc (.cells #[.int .u64 (sw p 0 : Nat), .int .u64 (sw p 1 : Nat), .int .u64 (sw p 2 : Nat), .int .u64 (sw p 3 : Nat)] 53) := ⟨_, rfl⟩
    rw [← hV]
    have HS0 : Hid (Below w.heap.size w w2 ∧ (∃ a b c d, w2.heap[w.heap.size]? = some (.cells #[a, b, c, d] 53)) ∧ Rdr w2 (w.heap.size + 1) (w.heap.size + 1 + 1) (ofBys ([] : List Int)) nx 0 lg ∧ w2.heap[w1.heap.size]? = some (.cells #[.int .u64 (sw p 0 : Nat), .int .u64 (sw p 1 : Nat), .int .u64 (sw p 2 : Nat), .int .u64 (sw p 3 : Nat)] 53)) := by
      refine Lib.hid ⟨?_, ⟨_, _, _, _, HGH.out w2 ?_⟩, ?_, ?_⟩
      · rw [hV]; exact (((Below.refl _ _).alloc (Nat.le_refl _) _).trans (HB1.out.mono (Nat.le_succ _))).alloc (by omega) _
      · rw [hV]; exact HB1.out.alloc (by omega) _
      · rw [hV]; exact HR1.out.mv (Mv.below HR1.out.2.1 ((Below.refl _ _).alloc (Nat.le_refl _) _))
      · rw [hV]; exact alloc_last _ _
    clear hV
    refine Reg.wp_region_vals (fun X => Below w.heap.size w X ∧ (∃ a b c d, X.heap[w.heap.size]? = some (.cells #[a, b, c, d] 53)) ∧ Rdr X (w.heap.size + 1) (w.heap.size + 1 + 1) (ofBys ([] : List Int)) nx 0 lg ∧ X.heap[w1.heap.size]? = some (.cells #[.int .u64 (sw p 0 : Nat), .int .u64 (sw p 1 : Nat), .int .u64 (sw p 2 : Nat), .int .u64 (sw p 3 : Nat)] 53)) (fun j => ([some (.agg #[.int .u64 (sw p 0 : Nat), .int .u64 (sw p 1 : Nat), .int .u64 (sw p 2 : Nat), .int .u64 (sw p 3 : Nat)]), some (.pointer (some ⟨w.heap.size + 1, 0, none⟩)), some (.int .i64 (nx : Nat)), none, some (.int .i64 (nx : Nat)), some (.nilIface)] : List (Option Value)).getD j none) (fun j _ X => j = 3 → X.heap[w.heap.size]? = some (.cells #[.int .u64 (sw p 0 : Nat), .int .u64 (sw p 1 : Nat), .int .u64 (sw p 2 : Nat), .int .u64 (sw p 3 : Nat)] 53)) (by kernel_rfl) (by kernel_rfl) (by kernel_rfl) (by kernel_rfl) ?rs0 ?rsE ?rsZ
    case rs0 => exact ⟨HS0.out.1.drew, HS0.out.2.1, HS0.out.2.2.1, HS0.out.2.2.2⟩
    case rsE =>
      refine Reg.EachV.plain rfl (fun T X hS hk K hK => ?_) ?_
      · skip
        have g10 : T[10]? = some (.pointer (some ⟨w1.heap.size, 0, none⟩)) := hk.old 10 (by kernel_rfl) rfl
        obtain ⟨⟨y0, y1, y2, y3⟩, _, _⟩ := cells4 hS.2.2.2
        have hK := hK _ X hS (Reg.Is.of_val rfl) (fun _ _ _ h => h)
        clear hk
        go_simp
        exact hK
      refine Reg.EachV.plain rfl (fun T X hS hk K hK => ?_) ?_
      · skip
        have g9 : T[9]? = some (.pointer (some ⟨w.heap.size + 1, 0, none⟩)) := hk.old 9 (by kernel_rfl) rfl
        have hK := hK _ X hS (Reg.Is.of_val rfl) (fun _ _ _ h => h)
        clear hk
        go_simp
        exact hK
      refine Reg.EachV.plain rfl (fun T X hS hk K hK => ?_) ?_
      · skip
        have g52 : T[52]? = some (.pointer (some ⟨w.heap.size + 1, 0, none⟩)) := hk.val 1 52 (by kernel_rfl) (by kernel_rfl) rfl
        have hpl := place_anyZ (w.heap.size + 1) (w.heap.size + 1 + 1) (ofBys ([] : List Int)) nx lg X hS.2.2.1
        clear hk
        go_simp
        refine hpl.mono ?_
        rintro e' w3 ⟨rfl, hm⟩
        have hl := hS.2.2.1.lt
        have hgl := lt_blkB hS.2.2.2
        obtain ⟨a, b, c, d, hg⟩ := hS.2.1
        have hgz := lt_blkB hg
        exact hK _ _ ⟨hS.1.trans (hm.1.mono (by omega)), ⟨a, b, c, d, (hm.2.2 _ hgz (by omega)).trans hg⟩, hS.2.2.1.mv hm, (hm.2.2 _ hgl (by omega)).trans hS.2.2.2⟩ (Reg.Is.of_val (by rfl)) (fun j x _ h3 hj => (hm.2.2 _ hgz (by omega)).trans (h3 hj))
      refine Reg.EachV.plain rfl (fun T X hS hk K hK => ?_) ?_
      · skip
        have g6 : T[6]? = some (.pointer (some ⟨w.heap.size, 0, none⟩)) := hk.old 6 (by kernel_rfl) rfl
        have g51 : T[51]? = some (.agg #[.int .u64 (sw p 0 : Nat), .int .u64 (sw p 1 : Nat), .int .u64 (sw p 2 : Nat), .int .u64 (sw p 3 : Nat)]) := hk.val 0 51 (by kernel_rfl) (by kernel_rfl) rfl
        obtain ⟨a, b, c, d, hg⟩ := hS.2.1
        obtain ⟨_, ⟨f0, f1, f2, f3⟩, hgz⟩ := cells4 hg
        obtain ⟨⟨z0, z1, z2, z3⟩, _, _⟩ := cells4 hg
        have hp := blk_putB p hg
        clear hk
        go_simp
        refine hK undef _ ⟨(((hS.1.setCell (p := ⟨w.heap.size, 0, none⟩) (Nat.le_refl _) _).setCell (p := ⟨w.heap.size, 1, none⟩) (Nat.le_refl _) _).setCell (p := ⟨w.heap.size, 2, none⟩) (Nat.le_refl _) _).setCell (p := ⟨w.heap.size, 3, none⟩) (Nat.le_refl _) _, ⟨_, _, _, _, hp⟩, (((hS.2.2.1.set w.heap.size 0 _ (by omega) (by omega)).set w.heap.size 1 _ (by omega) (by omega)).set w.heap.size 2 _ (by omega) (by omega)).set w.heap.size 3 _ (by omega) (by omega), ?_⟩ (Reg.Is.of_prop rfl fun _ => hp) (fun _ _ _ _ _ => hp)
        rw [Below.heap_setCell _ _ _ _ (by simp; omega), Below.heap_setCell _ _ _ _ (by simp; omega), Below.heap_setCell _ _ _ _ (by simp; omega), Below.heap_setCell _ _ _ _ (by simp; omega)]
        exact hS.2.2.2
      refine Reg.EachV.plain rfl (fun T X hS hk K hK => ?_) ?_
      · skip
        have g53 : T[53]? = some (.int .i64 (nx : Nat)) := hk.val 2 53 (by kernel_rfl) (by kernel_rfl) rfl
        have hK := hK _ X hS (Reg.Is.of_val rfl) (fun _ _ _ h => h)
        clear hk
        go_simp
        exact hK
      refine Reg.EachV.plain rfl (fun T X hS hk K hK => ?_) ?_
      · skip
        have hK := hK _ X hS (Reg.Is.of_val rfl) (fun _ _ _ h => h)
        clear hk
        go_simp
        exact hK
      exact Reg.EachV.nil
    case rsZ =>
      intro u w1 hS hI
      have e0 : u 0 = .agg #[.int .u64 (sw p 0 : Nat), .int .u64 (sw p 1 : Nat), .int .u64 (sw p 2 : Nat), .int .u64 (sw p 3 : Nat)] := (hI 0 (by decide)).val rfl
      have e1 : u 1 = .pointer (some ⟨w.heap.size + 1, 0, none⟩) := (hI 1 (by decide)).val rfl
      have e2 : u 2 = .int .i64 (nx : Nat) := (hI 2 (by decide)).val rfl
      have e3 := (hI 3 (by decide)).prop rfl
      have e4 : u 4 = .int .i64 (nx : Nat) := (hI 4 (by decide)).val rfl
      have e5 : u 5 = .nilIface := (hI 5 (by decide)).val rfl
      clear hI
      simp only [Reg.putAll, Act.put, List.setIfInBounds_toArray, List.set_cons_succ, List.set_cons_zero, Nat.zero_add, Nat.reduceAdd, e0, e1, e2, e4, e5]
      clear e0 e1 e2 e4 e5
      have hg := e3 rfl
      obtain ⟨⟨c0, c1, c2, c3⟩, _, _⟩ := cells4 hg
      have HBF := Lib.hid hS.1
      clear e3 hS
      go_wp2
      exact bodyPost_ret (by simp [results, Tryd.results29, go_sem, c0, c1, c2, c3]; rfl) rfl (by rw [HBR.out]; exact ⟨by rw [Nat.zero_add]; rfl, HBF.out⟩)
set_option maxRecDepth 100000 in
set_option maxHeartbeats 16000000 in
theorem bkt_runD (cf : ByteArray → (Nat → Bool) × Bool) (hcf : ClassOk cf) (e : Nat → Addr) (ad : Addr) (cap : Nat) (lg : Int) (w : World) (he : Es w w.heap.size e)   (hlg : lg = 2 ∨ lg = 3 ∨ lg = 4) :
    Calls Tryd.prog 29 #[.slice (some ad) 0 cap, .int .i64 0, .int .i64 lg] w (BkPost (brkR cf (ofBys ([] : List Int)) (decide (lg = 2)) 0) e 0 lg w) := by
  have HE := Lib.hid he
  have HSD : Hid (Sl w (.slice (some ad) 0 cap) ([] : List Int)) := Lib.hid (⟨fun i => by simp, by simp, Or.inl ⟨rfl, _, _, rfl⟩⟩)
  have HCF := Lib.hid hcf
  have HH : ∀ w, Hid (Calls Tryd.prog 51 #[.int .i64 lg] w fun e w' => e = .returned (.bool true) ∧ w = w') := fun w => Lib.hid (hasB_any lg w hlg)
  have hsb : (ofBys ([] : List Int)).size + 0 ≤ 140737488351232 := by simp [ofBys_size]
  have hld : ([] : List Int).length ≤ 140737488351232 := by simp
  clear he hlg hcf
  go_enter Tryd.func29, Tryd.ntmps29
  go_wp2_with fail
  refine (HH _).out.mono ?_
  rintro e' w' ⟨rfl, rfl⟩
  go_wp2_with fail
  have HSA := Lib.hid (HSD.out.below (((Below.refl w.heap.size w).alloc (Nat.le_refl _) (.cells #[.int .u64 0, .int .u64 0, .int .u64 0, .int .u64 0] 53)).alloc (by simp) (.cells #[.pointer none, .int .i64 0, .int .i64 lg] 89)))
  refine (cnew_any _ ([] : List Int) _ HSA.out).mono ?_
  rintro e' w' ⟨rfl, rfl⟩
  go_wp2_with fail
  obtain ⟨V, hV⟩ : ∃ V, V = (((w.alloc (.cells #[.int .u64 0, .int .u64 0, .int .u64 0, .int .u64 0] 53)).alloc (.cells #[.pointer (some ⟨w.heap.size + 1 + 1, 0, none⟩), .int .i64 0, .int .i64 lg] 89)).alloc (.cells #[.string (ofBys ([] : List Int)), .int .i64 0] 124)) := ⟨_, rfl⟩
  rw [← hV]
  have HBV : Hid (Below (w.heap.size + 1) (w.alloc (.cells #[.int .u64 0, .int .u64 0, .int .u64 0, .int .u64 0] 53)) V) := Lib.hid (by rw [hV]; exact ((Below.refl _ _).alloc (by simp) _).alloc (by simp) _)
  have HBW : Hid (Below w.heap.size w V) := Lib.hid (((Below.refl _ _).alloc (Nat.le_refl _) _).trans (HBV.out.mono (Nat.le_succ _)))
  have hvz : V.heap.size = w.heap.size + 1 + 1 + 1 := by rw [hV]; simp
  have HR : Hid (Rdr V (w.heap.size + 1) (w.heap.size + 1 + 1) (ofBys ([] : List Int)) 0 0 lg) := by
    refine Lib.hid ⟨?_, ⟨?_, by omega, by omega⟩, by omega, by omega⟩
    · rw [hV, Below.heap_alloc _ _ _ (by simp)]
      have := alloc_last (w.alloc (.cells #[.int .u64 0, .int .u64 0, .int .u64 0, .int .u64 0] 53)) (.cells #[.pointer (some ⟨w.heap.size + 1 + 1, 0, none⟩), .int .i64 0, .int .i64 lg] 89)
      simpa using this
    · rw [hV]
      have := alloc_last ((w.alloc (.cells #[.int .u64 0, .int .u64 0, .int .u64 0, .int .u64 0] 53)).alloc (.cells #[.pointer (some ⟨w.heap.size + 1 + 1, 0, none⟩), .int .i64 0, .int .i64 lg] 89)) (.cells #[.string (ofBys ([] : List Int)), .int .i64 0] 124)
      simpa using this
  have HEV : Hid (Es V (w.heap.size + 1 + 1) e) := Lib.hid ⟨(HE.out.below HBW.out).var, by have := HE.out.low; omega, by omega⟩
  clear hV
  have HBK := Lib.hid (brk_any cf HCF.out e (w.heap.size + 1) (w.heap.size + 1 + 1) (ofBys ([] : List Int)) 0 0 lg (by omega) V HEV.out HR.out)
  have HG : ∀ w', Below (w.heap.size + 1) (w.alloc (.cells #[.int .u64 0, .int .u64 0, .int .u64 0, .int .u64 0] 53)) w' → w'.heap[w.heap.size]? = some (.cells #[.int .u64 0, .int .u64 0, .int .u64 0, .int .u64 0] 53) := fun w' hb => (hb.block _ (Nat.lt_succ_self _)).trans (alloc_last w _)
  have HGH := Lib.hid HG
  clear HG
  cases hbr : brkR cf (ofBys ([] : List Int)) (decide (lg = 2)) 0 with
  | bad c pos =>
    rw [hbr] at HBK
    have HBR := Lib.hid hbr
    clear hbr
    refine HBK.out.mono ?_
    rintro e' w1 ⟨v, k', rfl, hm, her⟩
    have HB1 : Hid (Below (w.heap.size + 1) (w.alloc (.cells #[.int .u64 0, .int .u64 0, .int .u64 0, .int .u64 0] 53)) w1) := Lib.hid (HBV.out.trans (hm.1.mono (by omega)))
    have HER := Lib.hid her
    obtain ⟨kk, rfl⟩ := her.iface
    obtain ⟨⟨c0, c1, c2, c3⟩, ⟨g0, g1, g2, g3⟩, hgz⟩ := cells4 (HGH.out w1 HB1.out)
    clear hm her
    unfold SV
    go_wp2
    refine bodyPost_ret (by simp [results, Tryd.results29, go_sem, c0, c1, c2, c3, hgz]; rfl) rfl ?_
    rw [HBR.out]
    refine ⟨_, by unfold SV; rw [item_no.1, item_no.2.1, item_no.2.2.1, item_no.2.2.2], ErrS.lower (ErrS.below (ErrS.set (ErrS.set (ErrS.set (ErrS.set HER.out w.heap.size 0 _ (by omega)) w.heap.size 1 _ (by omega)) w.heap.size 2 _ (by omega)) w.heap.size 3 _ (by omega)) ((Below.refl _ _).alloc (Nat.le_refl _) _)) (by omega), ?_⟩
    exact (((((((Below.refl w.heap.size w).alloc (Nat.le_refl _) _).trans (HB1.out.mono (Nat.le_succ _))).setCell (p := ⟨w.heap.size, 0, none⟩) (Nat.le_refl _) _).setCell (p := ⟨w.heap.size, 1, none⟩) (Nat.le_refl _) _).setCell (p := ⟨w.heap.size, 2, none⟩) (Nat.le_refl _) _).setCell (p := ⟨w.heap.size, 3, none⟩) (Nat.le_refl _) _).alloc (by simp; omega) _
  | ok p nx =>
    rw [hbr] at HBK
    have HBR := Lib.hid hbr
    clear hbr
    refine HBK.out.mono ?_
    rintro e' w1 ⟨rfl, hm⟩
    have HB1 : Hid (Below (w.heap.size + 1) (w.alloc (.cells #[.int .u64 0, .int .u64 0, .int .u64 0, .int .u64 0] 53)) w1) := Lib.hid (HBV.out.trans (hm.1.mono (by omega)))
    have HR1 := Lib.hid (HR.out.mv hm)
    have hw1 : w.heap.size + 1 + 1 < w1.heap.size := HR1.out.lt.2
    clear hm
    unfold SV
    go_wp2_with fail
    obtain ⟨w2, hV⟩ : ∃ V, V = w1.alloc (.cells #[.int .u64 (sw p 0 : Nat), .int .u64 (sw p 1 : Nat), .int .u64 (sw p 2 : Nat), .int .u64 (sw p 3 : Nat)] 53) := ⟨_, rfl⟩
    rw [← hV]
    have HS0 : Hid (Below w.heap.size w w2 ∧ (∃ a b c d, w2.heap[w.heap.size]? = some (.cells #[a, b, c, d] 53)) ∧ Rdr w2 (w.heap.size + 1) (w.heap.size + 1 + 1) (ofBys ([] : List Int)) nx 0 lg ∧ w2.heap[w1.heap.size]? = some (.cells #[.int .u64 (sw p 0 : Nat), .int .u64 (sw p 1 : Nat), .int .u64 (sw p 2 : Nat), .int .u64 (sw p 3 : Nat)] 53)) := by
      refine Lib.hid ⟨?_, ⟨_, _, _, _, HGH.out w2 ?_⟩, ?_, ?_⟩
      · rw [hV]; exact (((Below.refl _ _).alloc (Nat.le_refl _) _).trans (HB1.out.mono (Nat.le_succ _))).alloc (by omega) _
      · rw [hV]; exact HB1.out.alloc (by omega) _
      · rw [hV]; exact HR1.out.mv (Mv.below HR1.out.2.1 ((Below.refl _ _).alloc (Nat.le_refl _) _))
      · rw [hV]; exact alloc_last _ _
    clear hV
    refine Reg.wp_region_vals (fun X => Below w.heap.size w X ∧ (∃ a b c d, X.heap[w.heap.size]? = some (.cells #[a, b, c, d] 53)) ∧ Rdr X (w.heap.size + 1) (w.heap.size + 1 + 1) (ofBys ([] : List Int)) nx 0 lg ∧ X.heap[w1.heap.size]? = some (.cells #[.int .u64 (sw p 0 : Nat), .int .u64 (sw p 1 : Nat), .int .u64 (sw p 2 : Nat), .int .u64 (sw p 3 : Nat)] 53)) (fun j => ([some (.agg #[.int .u64 (sw p 0 : Nat), .int .u64 (sw p 1 : Nat), .int .u64 (sw p 2 : Nat), .int .u64 (sw p 3 : Nat)]), some (.pointer (some ⟨w.heap.size + 1, 0, none⟩)), some (.int .i64 (nx : Nat)), none, some (.int .i64 (nx : Nat)), some (.nilIface)] : List (Option Value)).getD j none) (fun j _ X => j = 3 → X.heap[w.heap.size]? = some (.cells #[.int .u64 (sw p 0 : Nat), .int .u64 (sw p 1 : Nat), .int .u64 (sw p 2 : Nat), .int .u64 (sw p 3 : Nat)] 53)) (by kernel_rfl) (by kernel_rfl) (by kernel_rfl) (by kernel_rfl) ?rs0 ?rsE ?rsZ
    case rs0 => exact ⟨HS0.out.1.drew, HS0.out.2.1, HS0.out.2.2.1, HS0.out.2.2.2⟩
    case rsE =>
      refine Reg.EachV.plain rfl (fun T X hS hk K hK => ?_) ?_
      · skip
        have g10 : T[10]? = some (.pointer (some ⟨w1.heap.size, 0, none⟩)) := hk.old 10 (by kernel_rfl) rfl
        obtain ⟨⟨y0, y1, y2, y3⟩, _, _⟩ := cells4 hS.2.2.2
        have hK := hK _ X hS (Reg.Is.of_val rfl) (fun _ _ _ h => h)
        clear hk
        go_simp
        exact hK
      refine Reg.EachV.plain rfl (fun T X hS hk K hK => ?_) ?_
      · skip
        have g9 : T[9]? = some (.pointer (some ⟨w.heap.size + 1, 0, none⟩)) := hk.old 9 (by kernel_rfl) rfl
        have hK := hK _ X hS (Reg.Is.of_val rfl) (fun _ _ _ h => h)
        clear hk
        go_simp
        exact hK
      refine Reg.EachV.plain rfl (fun T X hS hk K hK => ?_) ?_
      · skip
        have g52 : T[52]? = some (.pointer (some ⟨w.heap.size + 1, 0, none⟩)) := hk.val 1 52 (by kernel_rfl) (by kernel_rfl) rfl
        have hpl := place_anyZ (w.heap.size + 1) (w.heap.size + 1 + 1) (ofBys ([] : List Int)) nx lg X hS.2.2.1
        clear hk
        go_simp
        refine hpl.mono ?_
        rintro e' w3 ⟨rfl, hm⟩
        have hl := hS.2.2.1.lt
        have hgl := lt_blkB hS.2.2.2
        obtain ⟨a, b, c, d, hg⟩ := hS.2.1
        have hgz := lt_blkB hg
        exact hK _ _ ⟨hS.1.trans (hm.1.mono (by omega)), ⟨a, b, c, d, (hm.2.2 _ hgz (by omega)).trans hg⟩, hS.2.2.1.mv hm, (hm.2.2 _ hgl (by omega)).trans hS.2.2.2⟩ (Reg.Is.of_val (by rfl)) (fun j x _ h3 hj => (hm.2.2 _ hgz (by omega)).trans (h3 hj))
      refine Reg.EachV.plain rfl (fun T X hS hk K hK => ?_) ?_
      · skip
        have g6 : T[6]? = some (.pointer (some ⟨w.heap.size, 0, none⟩)) := hk.old 6 (by kernel_rfl) rfl
        have g51 : T[51]? = some (.agg #[.int .u64 (sw p 0 : Nat), .int .u64 (sw p 1 : Nat), .int .u64 (sw p 2 : Nat), .int .u64 (sw p 3 : Nat)]) := hk.val 0 51 (by kernel_rfl) (by kernel_rfl) rfl
        obtain ⟨a, b, c, d, hg⟩ := hS.2.1
        obtain ⟨_, ⟨f0, f1, f2, f3⟩, hgz⟩ := cells4 hg
        obtain ⟨⟨z0, z1, z2, z3⟩, _, _⟩ := cells4 hg
        have hp := blk_putB p hg
        clear hk
        go_simp
        refine hK undef _ ⟨(((hS.1.setCell (p := ⟨w.heap.size, 0, none⟩) (Nat.le_refl _) _).setCell (p := ⟨w.heap.size, 1, none⟩) (Nat.le_refl _) _).setCell (p := ⟨w.heap.size, 2, none⟩) (Nat.le_refl _) _).setCell (p := ⟨w.heap.size, 3, none⟩) (Nat.le_refl _) _, ⟨_, _, _, _, hp⟩, (((hS.2.2.1.set w.heap.size 0 _ (by omega) (by omega)).set w.heap.size 1 _ (by omega) (by omega)).set w.heap.size 2 _ (by omega) (by omega)).set w.heap.size 3 _ (by omega) (by omega), ?_⟩ (Reg.Is.of_prop rfl fun _ => hp) (fun _ _ _ _ _ => hp)
        rw [Below.heap_setCell _ _ _ _ (by simp; omega), Below.heap_setCell _ _ _ _ (by simp; omega), Below.heap_setCell _ _ _ _ (by simp; omega), Below.heap_setCell _ _ _ _ (by simp; omega)]
        exact hS.2.2.2
      refine Reg.EachV.plain rfl (fun T X hS hk K hK => ?_) ?_
      · skip
        have g53 : T[53]? = some (.int .i64 (nx : Nat)) := hk.val 2 53 (by kernel_rfl) (by kernel_rfl) rfl
        have hK := hK _ X hS (Reg.Is.of_val rfl) (fun _ _ _ h => h)
        clear hk
        go_simp
        exact hK
      refine Reg.EachV.plain rfl (fun T X hS hk K hK => ?_) ?_
      · skip
        have hK := hK _ X hS (Reg.Is.of_val rfl) (fun _ _ _ h => h)
        clear hk
        go_simp
        exact hK
      exact Reg.EachV.nil
    case rsZ =>
      intro u w1 hS hI
      have e0 : u 0 = .agg #[.int .u64 (sw p 0 : Nat), .int .u64 (sw p 1 : Nat), .int .u64 (sw p 2 : Nat), .int .u64 (sw p 3 : Nat)] := (hI 0 (by decide)).val rfl
      have e1 : u 1 = .pointer (some ⟨w.heap.size + 1, 0, none⟩) := (hI 1 (by decide)).val rfl
      have e2 : u 2 = .int .i64 (nx : Nat) := (hI 2 (by decide)).val rfl
      have e3 := (hI 3 (by decide)).prop rfl
      have e4 : u 4 = .int .i64 (nx : Nat) := (hI 4 (by decide)).val rfl
      have e5 : u 5 = .nilIface := (hI 5 (by decide)).val rfl
      clear hI
      simp only [Reg.putAll, Act.put, List.setIfInBounds_toArray, List.set_cons_succ, List.set_cons_zero, Nat.zero_add, Nat.reduceAdd, e0, e1, e2, e4, e5]
      clear e0 e1 e2 e4 e5
      have hg := e3 rfl
      obtain ⟨⟨c0, c1, c2, c3⟩, _, _⟩ := cells4 hg
      have HBF := Lib.hid hS.1
      clear e3 hS
      go_wp2
      exact bodyPost_ret (by simp [results, Tryd.results29, go_sem, c0, c1, c2, c3]; rfl) rfl (by rw [HBR.out]; exact ⟨by rw [Nat.zero_add]; rfl, HBF.out⟩)
/-- Bracket, its arguments being right. -/
theorem bkt_any (cf : ByteArray → (Nat → Bool) × Bool) (hcf : ClassOk cf) (e : Nat → Addr) (v : Value) (l : List Int) (k : Nat) (lg : Int) (hb47 : l.length ≤ 140737488351232) (w : World) (he : Es w w.heap.size e) (hs : Sl w v l) (hk : k ≤ l.length) (hlg : lg = 2 ∨ lg = 3 ∨ lg = 4) :
    Calls Tryd.prog 29 #[v, .int .i64 k, .int .i64 lg] w (BkPost (brkR cf (ofBys (l.drop k)) (decide (lg = 2)) 0) e k lg w) := by
  have hs' := hs
  obtain ⟨hy, hl, ⟨rfl, ad, cap, rfl⟩ | ⟨x, o, cap, rfl, hcl, hcm, hr⟩⟩ := hs'
  · obtain rfl : k = 0 := by simpa using hk
    cases ad with
    | none => exact bkt_runC cf hcf e cap lg w he hlg
    | some ad => exact bkt_runD cf hcf e ad cap lg w he hlg
  · by_cases hc : k < cap
    · exact bkt_runA cf hcf e x o cap l k lg hb47 w he hs hk hc hcl hcm hr hlg
    · obtain rfl : k = cap := by omega
      have hlk : l.length = k := by omega
      rw [hlk] at hs ⊢
      exact bkt_runB cf hcf e x o l k lg hb47 w he hs hlk hlg
end Go.Proofs.YtopnckfmdjhbjaaDoor
