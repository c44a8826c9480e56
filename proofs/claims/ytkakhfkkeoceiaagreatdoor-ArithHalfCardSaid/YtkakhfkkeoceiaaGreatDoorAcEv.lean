import Derived.Test.YtkakhfkkeoceiaaGreatDoorKRk
import Derived.Test.YtkakhfkkeoceiaaGreatDoorKTx
namespace Go.Proofs.YtkakhfkkeoceiaaGreatDoor
set_option maxHeartbeats 8000000
set_option maxRecDepth 100000
open Go.RowKit Go.WideMaps Go.Maps
theorem CodeAt.parts {w : World} {c : Nat} {l : List Ins} (h : CodeAt w c l) (hl : l ≠ []) : ∃ g cap cur, w.heap[c]? = some (.cells #[.slice (some ⟨g, 0, none⟩) l.length cap] 113 (0, 0)) ∧ l.length ≤ cap ∧ g < w.heap.size ∧ w.heap[g]? = some (.cells cur 157 (0, 0)) ∧ ∀ (k : Nat) (i : Ins), l[k]? = some i → ∀ j u, i.cells[j]? = some u → cur[k * 6 + j]? = some u := by
 obtain ⟨v, hv, _, ⟨rfl, hz⟩ | ⟨g, cap, cur, rfl, _, hg, hnc, _, hcs, htk⟩⟩ := h
 ·exact absurd (List.length_eq_zero_iff.1 hz) hl
 ·refine ⟨g, cap, cur, hv, hnc, lt_blkA hg, hg, fun k i hk j u hu => ?_⟩
  have hj : j < 6 := by have := (List.getElem?_eq_some_iff.1 hu).1; rwa [Ins.cells_len] at this
  have hkl := (List.getElem?_eq_some_iff.1 hk).1
  have h1 := rowI_at l k i hk j hj
  rw [← htk, hu, List.getElem?_take, if_pos (by omega)] at h1
  rw [← Array.getElem?_toList]
  exact h1
theorem comp_ne : ∀ (t : Tr) (k : Nat), comp t k ≠ []
 | .num _ _, _ => by simp [comp]
 | .name _ _, _ => by simp [comp]
 | .un _ _ _, _ => by simp [comp]
 | .bin op p a b, k => by simp only [comp]; split <;> (try split) <;> simp [compAnd, compOr]
 | .cond _ _ _ _ _, _ => by simp [comp, compIf]
 | .asg op s p q a, k => by simp only [comp]; split <;> simp
def Tr.Fits : Tr → Prop
 | .num n _ => I64 n
 | .name s _ => s.size ≤ maxLen
 | .un _ _ a => a.Fits
 | .bin _ _ a b => a.Fits ∧ b.Fits
 | .cond _ _ a b c => a.Fits ∧ b.Fits ∧ c.Fits
 | .asg _ s _ _ a => s.size ≤ maxLen ∧ a.Fits
theorem ok_plain {i : Ins} (h : i.nm = sEmpty) (hk : i.k = 0 → I64 i.n) : InsOk i := ⟨by rw [h]; decide, hk⟩
theorem comp_fits : ∀ (t : Tr) (k : Nat), t.Fits → ∀ i ∈ comp t k, InsOk i
 | .num n p, k, h, i, hi => by
  simp only [comp, List.mem_singleton] at hi
  subst hi
  exact ok_plain rfl (fun _ => h)
 | .name s p, k, h, i, hi => by
  simp only [comp, List.mem_singleton] at hi
  subst hi
  exact ⟨h, fun h => by cases h⟩
 | .un op p a, k, h, i, hi => by
  simp only [comp, List.mem_append, List.mem_singleton] at hi
  rcases hi with hi | rfl
  ·exact comp_fits a _ h i hi
  ·exact ok_plain rfl (fun h => by cases h)
 | .bin op p a b, k, h, i, hi => by
  simp only [comp] at hi
  split at hi
  ·simp only [compAnd, List.mem_append, List.mem_cons, List.not_mem_nil, or_false] at hi
   rcases hi with hi | rfl | hi | rfl | rfl | rfl
   ·exact comp_fits a _ h.1 i hi
   ·exact ok_plain rfl (fun h => by cases h)
   ·exact comp_fits b _ h.2 i hi
   ·exact ok_plain rfl (fun h => by cases h)
   ·exact ok_plain rfl (fun h => by cases h)
   ·exact ok_plain rfl (fun _ => by show I64 0; unfold I64; omega)
  ·split at hi
   ·simp only [compOr, List.mem_append, List.mem_cons, List.not_mem_nil, or_false] at hi
    rcases hi with hi | rfl | rfl | rfl | hi | rfl
    ·exact comp_fits a _ h.1 i hi
    ·exact ok_plain rfl (fun h => by cases h)
    ·exact ok_plain rfl (fun _ => by show I64 1; unfold I64; omega)
    ·exact ok_plain rfl (fun h => by cases h)
    ·exact comp_fits b _ h.2 i hi
    ·exact ok_plain rfl (fun h => by cases h)
   ·simp only [List.mem_append, List.mem_singleton] at hi
    rcases hi with hi | hi | rfl
    ·exact comp_fits a _ h.1 i hi
    ·exact comp_fits b _ h.2 i hi
    ·exact ok_plain rfl (fun h => by cases h)
 | .cond op p a b c, k, h, i, hi => by
  simp only [comp, compIf, List.mem_append, List.mem_cons] at hi
  rcases hi with hi | rfl | hi | rfl | hi
  ·exact comp_fits a _ h.1 i hi
  ·exact ok_plain rfl (fun h => by cases h)
  ·exact comp_fits b _ h.2.1 i hi
  ·exact ok_plain rfl (fun h => by cases h)
  ·exact comp_fits c _ h.2.2 i hi
 | .asg op s p q a, k, h, i, hi => by
  simp only [comp] at hi
  split at hi
  ·simp only [List.mem_append, List.mem_singleton] at hi
   rcases hi with hi | rfl
   ·exact comp_fits a _ h.2 i hi
   ·exact ⟨h.1, fun h => by cases h⟩
  ·simp only [List.mem_append, List.mem_cons, List.not_mem_nil, or_false] at hi
   rcases hi with rfl | hi | rfl | rfl
   ·exact ⟨h.1, fun h => by cases h⟩
   ·exact comp_fits a _ h.2 i hi
   ·exact ok_plain rfl (fun h => by cases h)
   ·exact ⟨h.1, fun h => by cases h⟩
theorem eparse_ok (v : Value) (l : List Int) (n : Nat) (e : Tr) (t : Tk) (s : Nat → Addr) (w : World) (h : parseP l n = some (.ok e t)) (hs : Sl w v l) (he : Er w s) :
  Calls Tryz.prog 28 #[v] w fun x w' => (∃ E, x = .returned (.tuple #[.pointer (some ⟨E, 0, none⟩), .nilIface]) ∧ ExAt w' E e) ∧ Below w.heap.size w w' := by
 refine (parse_any v l n _ s w h hs he).mono ?_
 rintro x w' ⟨⟨E, o, m, rfl, _, hE, hI⟩, hb⟩
 exact ⟨⟨E, rfl, o, m, hE, hI.mono (Nat.zero_le _) _ _⟩, hb⟩
theorem eparse_bad (v : Value) (l : List Int) (n c p : Nat) (s : Nat → Addr) (w : World) (h : parseP l n = some (.bad c p)) (hs : Sl w v l) (he : Er w s) :
  Calls Tryz.prog 28 #[v] w fun x w' => (∃ pv, x = .returned (.tuple #[.pointer none, .iface 96 pv]) ∧ ErrAt w' s c p (.iface 96 pv)) ∧ Below w.heap.size w w' :=
 parse_any v l n _ s w h hs he
theorem esl_parts {w : World} {v : Value} {l : List Int} (h : Sl w v l) : ∃ a cap, v = .slice a l.length cap := by
 obtain ⟨_, _, ⟨rfl, a, cap, rfl⟩ | ⟨b, o, cap, rfl, _, _, _⟩⟩ := h
 ·exact ⟨a, cap, rfl⟩
 ·exact ⟨_, cap, rfl⟩
def ValQ (sn : Nat → Addr) : Rv → Ending → World → Prop
 | .ok x _, e, _ => e = .returned (.tuple #[.int .i64 x, .nilIface])
 | .bad c p, e, w' => ∃ pv, e = .returned (.tuple #[.int .i64 0, .iface 96 pv]) ∧ ErrAt w' sn c p (.iface 96 pv)
 | .no, _, _ => False
set_option maxHeartbeats 2000000 in
theorem newMachine_map (a : Option Addr) (w : World) :
  Calls Tryz.prog 63 #[.pointer a] w fun e w' => e = .returned (.pointer (some ⟨w.heap.size + 1, 0, none⟩)) ∧ RunAt w.heap.size (w.heap.size + 1) w.heap.size a w ⟨0, [], []⟩ 0 w' := by
 have hmm := @run_makeMap Tryz.prog
 have hbm := built_mach a w.heap.size
 go_enter Tryz.func63, Tryz.ntmps63
 go_wp2_with (first | (refine wpList_buildTo rfl 122 _ rfl (some 5) rfl (machCells (.pointer a) (.map (some w.heap.size))) hbm ?_) | (refine wpList_boxTo rfl 122 _ rfl (some 6) rfl (w.heap.size + 1) (by simp) (machCells (.pointer a) (.map (some w.heap.size))) rfl ?_))
 go_ret
 have hb1 : Below w.heap.size w (w.alloc (.map #[] 0)) := (Below.refl _ _).alloc (Nat.le_refl _) _
 have hm := mach_new (t := 122) (alloc_second w (.map #[] 0) (.cells (machCells (.pointer a) (.map (some w.heap.size))) 122 (0, 0)))
 exact ⟨rfl, ⟨_, hm, fun i hi => by simp at hi⟩, (SetAt.made w).below ((Below.refl _ _).alloc (Nat.le_refl _) _), hb1.alloc (by simp) _, Nat.le_succ _, Nat.le_refl _, by omega⟩
set_option maxHeartbeats 2000000 in
theorem clen_any (c : Nat) (l : List Ins) (w : World) (h : CodeAt w c l) (hl : l ≠ []) : Calls Tryz.prog 30 #[.pointer (some ⟨c, 0, none⟩)] w fun e w' => e = .returned (.int .i64 (l.length : Nat)) ∧ w = w' := by
 obtain ⟨g, cap, cur, hc, _⟩ := h.parts hl
 obtain ⟨c0, _, hz⟩ := cells1A hc
 clear h hc
 go_enter Tryz.func30, Tryz.ntmps30
 go_wp2_with fail
 go_ret
 exact ⟨rfl, rfl⟩
theorem run_ok (c : Nat) (t : Tr) (v : Option Addr) (w : World) (val : ByteArray → ByteArray) (NV : ByteArray → Int × Nat) (sn : Nat → Addr) (hc : CodeAt w c (comp t 0)) (hE : EnvC w.heap.size v w val NV) (hsn : Er w sn) (htp : TP w)
  (hfit : t.Fits) (hneed : need t ≤ 1024) (hlen : (comp t 0).length ≤ 900000) (rv : Rv) (hev : ev NV t [] = rv) (hno : rv ≠ .no) (hkeep : v = none ∨ ∀ x e, rv = .ok x e → e = []) :
  Calls Tryz.prog 33 #[.pointer (some ⟨c, 0, none⟩), .pointer v] w fun e w' => ValQ sn rv e w' ∧ Below w.heap.size w w' := by
 have HCL := Lib.hid (clen_any c _ w hc (comp_ne t 0))
 have HNM := Lib.hid (newMachine_map v w)
 obtain ⟨g, cap, cur, hcode, hcap, hgl, hg, hat⟩ := hc.parts (comp_ne t 0)
 obtain ⟨f, hrun, hf⟩ : ∃ f, (∃ r, runs NV (comp t 0) r ⟨0, [], []⟩ = some f) ∧ ((∃ x e, rv = .ok x e ∧ f = .go ⟨(comp t 0).length, [x], e⟩) ∨ ∃ a p, rv = .bad a p ∧ f = .bad a p) := by
  cases rv with
  | ok x e => exact ⟨_, comp_ok hneed hev, Or.inl ⟨x, e, rfl, rfl⟩⟩
  | bad a p => exact ⟨_, comp_bad hneed hev, Or.inr ⟨a, p, rfl, rfl⟩⟩
  | no => exact absurd rfl hno
 obtain ⟨r, hr⟩ := hrun
 have HRU : Hid (∀ X, RunAt w.heap.size (w.heap.size + 1) w.heap.size v w ⟨0, [], []⟩ 0 X → Calls Tryz.prog 64 #[.pointer (some ⟨w.heap.size + 1, 0, none⟩), .slice (some ⟨g, 0, none⟩) (comp t 0).length cap] X fun e w' => FinQ w.heap.size (w.heap.size + 1) w.heap.size v w sn (comp t 0).length f e w') := Lib.hid (fun X hX =>
  run_any w.heap.size (w.heap.size + 1) w.heap.size v w X val NV sn hE (fun Y hY => hsn.below hY) (comp t 0) _ ⟨g, cap, cur, rfl, hcap, hgl, hg, hat⟩ (comp_fits t 0 hfit) hlen r _ f 0 ⟨hr, hX, ⟨fun x hx => by simp at hx, by simp, Nat.le_refl _⟩, Nat.le_refl _⟩)
 have HTP := Lib.hid htp
 have HF := Lib.hid hf
 have HKE := Lib.hid hkeep
 have HCD := Lib.hid hcode
 have hn0 : ¬ (comp t 0).length = 0 := fun e => comp_ne t 0 (List.length_eq_zero_iff.1 e)
 clear hc hE hsn htp hfit hneed hev hno hkeep hcode hat hg hr hf hlen
 generalize (comp t 0).length = len at *
 have hne : decide ((len : Int) = 0) = false := decide_eq_false (by omega)
 have hne2 : decide (len = 0) = false := decide_eq_false hn0
 go_enter Tryz.func33, Tryz.ntmps33
 go_wp2_with fail
 refine HCL.out.mono ?_
 rintro e w0 ⟨rfl, rfl⟩
 go_wp2_with fail
 refine HNM.out.mono ?_
 rintro e w1 ⟨rfl, hr1⟩
 have HR1 := Lib.hid hr1
 obtain ⟨c0, _, hz⟩ := cells1A (blk_belowA HCD.out hr1.ch)
 clear hr1
 go_wp2_with fail
 refine (HRU.out w1 HR1.out).mono ?_
 intro e w2 hq
 clear c0 hz
 rcases HF.out with ⟨x, e', hrv, rfl⟩ | ⟨a, p, hrv, rfl⟩
 ·obtain ⟨rfl, ⟨s, hr2⟩, hm2, _⟩ := hq
  have HKP : Hid (Calls Tryz.prog 66 #[.pointer (some ⟨w.heap.size + 1, 0, none⟩)] w2 fun e w' => e = .returned (.tuple #[]) ∧ RunAt w.heap.size (w.heap.size + 1) w.heap.size v w ⟨len, [x], e'⟩ s w') := Lib.hid (keep_any _ _ _ v w w2 _ s hr2 (HKE.out.imp id (fun h => h x e' hrv)) (fun Y hY => HTP.out.below hY))
  have HRV := Lib.hid hrv
  clear hr2 hm2 hrv
  go_wp2_with fail
  refine HKP.out.mono ?_
  rintro e w3 ⟨rfl, hr3⟩
  have HR3 := Lib.hid hr3
  clear hr3
  go_wp2_with fail
  refine (rpop _ _ _ v w _ x [] e' s w3 HR3.out (by simp)).mono ?_
  rintro e w4 ⟨rfl, hr4, _⟩
  have HR4 := Lib.hid hr4.ch
  clear hr4
  go_wp2_with fail
  go_ret2
  rw [HRV.out]
  exact ⟨rfl, HR4.out⟩
 ·obtain ⟨pv, rfl, her, hb⟩ := hq
  have HER := Lib.hid her
  have HB := Lib.hid hb
  have HRV := Lib.hid hrv
  clear her hb hrv
  go_wp2_with fail
  go_ret2
  rw [HRV.out]
  exact ⟨⟨pv, rfl, HER.out⟩, HB.out⟩
theorem need_size : ∀ t : Tr, need t ≤ sizeT t
 | .num _ _ => by show 1 ≤ oneN sNum; decide
 | .name _ _ => by show 1 ≤ oneN sName; decide
 | .un op _ a => by have := need_size a; have h1 : 1 ≤ oneN op := by unfold oneN; split <;> omega
                    simp only [need, sizeT, List.sum_cons, List.sum_nil]; omega
 | .bin op _ a b => by have := need_size a; have := need_size b; have h1 : 1 ≤ oneN op := by unfold oneN; split <;> omega
                       simp only [need, sizeT, List.sum_cons, List.sum_nil]; omega
 | .cond op _ a b c => by have := need_size a; have := need_size b; have := need_size c; have h1 : 1 ≤ oneN op := by unfold oneN; split <;> omega
                          simp only [need, sizeT, List.sum_cons, List.sum_nil]; omega
 | .asg op _ _ _ a => by have := need_size a; have h1 : 1 ≤ oneN op := by unfold oneN; split <;> omega
                         simp only [need, sizeT, List.sum_cons, List.sum_nil]; omega
theorem comp_need : ∀ (t : Tr) (k : Nat), (comp t k).length ≤ 4 * need t
 | .num _ _, _ => by simp [comp, need]
 | .name _ _, _ => by simp [comp, need]
 | .un _ _ a, k => by have := comp_need a k; simp only [comp, need, List.length_append, List.length_singleton]; omega
 | .bin op p a b, k => by
  have h1 := comp_need a k
  simp only [comp, need]
  split
  ·have h2 := comp_need b (k + (comp a k).length + 1)
   simp only [compAnd, List.length_append, List.length_cons, List.length_nil]; omega
  ·split
   ·have h2 := comp_need b (k + (comp a k).length + 3)
    simp only [compOr, List.length_append, List.length_cons, List.length_nil]; omega
   ·have h2 := comp_need b (k + (comp a k).length)
    simp only [List.length_append, List.length_singleton]; omega
 | .cond _ _ a b c, k => by
  have h1 := comp_need a k
  have h2 := comp_need b (k + (comp a k).length + 1)
  have h3 := comp_need c (k + (comp a k).length + 1 + (comp b (k + (comp a k).length + 1)).length + 1)
  simp only [comp, compIf, need, List.length_append, List.length_cons]; omega
 | .asg op s p q a, k => by
  simp only [comp, need]
  split
  ·have h1 := comp_need a k
   simp only [List.length_append, List.length_singleton]; omega
  ·have h1 := comp_need a (k + 1)
   simp only [List.length_append, List.length_cons, List.length_nil]; omega
theorem opTxt_nm (op nm : ByteArray) (ks : List (List UInt8)) : nm.size ≤ (opTxt op nm ks).length := by
 unfold opTxt
 by_cases h : nm = sEmpty
 ·rw [h]; exact Nat.zero_le _
 ·rw [if_neg h]
  have e : (⟨#[32]⟩ ++ nm : ByteArray).data.toList.length = 1 + nm.size := by
   have : (⟨#[32]⟩ ++ nm : ByteArray).size = 1 + nm.size := ByteArray.size_append
   rw [← this]; rfl
  simp only [List.length_append, e]
  omega
theorem fits_txt (N : Nat) (hN : N ≤ maxLen) : ∀ t : Tr, t.Ops → (txt t).length ≤ N → t.Fits
 | .num n _, h, _ => ⟨by have := h.1; omega, h.2⟩
 | .name s _, _, h => Nat.le_trans (show s.size ≤ (txt (.name s 0)).length from Nat.le_refl _) (Nat.le_trans h hN)
 | .un op _ a, h, hl => by
  have := opTxt_ge op sEmpty [txt a]
  simp only [List.map_cons, List.map_nil, List.sum_cons, List.sum_nil] at this
  simp only [txt] at hl
  exact fits_txt N hN a h.2 (by omega)
 | .bin op _ a b, h, hl => by
  have := opTxt_ge op sEmpty [txt a, txt b]
  simp only [List.map_cons, List.map_nil, List.sum_cons, List.sum_nil] at this
  simp only [txt] at hl
  exact ⟨fits_txt N hN a h.2.1 (by omega), fits_txt N hN b h.2.2 (by omega)⟩
 | .cond op _ a b c, h, hl => by
  have := opTxt_ge op sEmpty [txt a, txt b, txt c]
  simp only [List.map_cons, List.map_nil, List.sum_cons, List.sum_nil] at this
  simp only [txt] at hl
  exact ⟨fits_txt N hN a h.2.1 (by omega), fits_txt N hN b h.2.2.1 (by omega), fits_txt N hN c h.2.2.2 (by omega)⟩
 | .asg op s p q a, h, hl => by
  have := opTxt_ge op s [txt a]
  have h2 := opTxt_nm op s [txt a]
  simp only [List.map_cons, List.map_nil, List.sum_cons, List.sum_nil] at this
  simp only [txt] at hl
  exact ⟨by omega, fits_txt N hN a h.2.2.2 (by omega)⟩
theorem eval_ok (bv : Value) (l : List Int) (n : Nat) (t : Tr) (k : Tk) (v : Option Addr) (w : World) (val : ByteArray → ByteArray) (NV : ByteArray → Int × Nat) (sn : Nat → Addr) (hp : parseP l n = some (.ok t k)) (hb : Byt l) (hs : Sl w bv l) (hsn : Er w sn) (htp : TP w)
  (hE : ∀ W, Below w.heap.size w W → EnvC W.heap.size v W val NV) (rv : Rv) (hev : ev NV t [] = rv) (hno : rv ≠ .no) (hkeep : v = none ∨ ∀ x e, rv = .ok x e → e = []) :
  Calls Tryz.prog 23 #[bv, .pointer v] w fun e w' => ValQ sn rv e w' ∧ Below w.heap.size w w' := by
 obtain ⟨oa, cap, rfl⟩ := esl_parts hs
 obtain ⟨hwf, _, hl⟩ := parseP_wf hp
 have hops := parseP_ops hb hp
 have hsz := parseP_size hp
 have hns := need_size t
 have hcn := comp_need t 0
 have hfit := fits_txt 32768 (by decide) t hops (parseP_len hp)
 have HPA := Lib.hid (eparse_ok _ l n t k sn w hp hs hsn)
 have HCO : Hid (∀ E X, ExAt X E t → Calls Tryz.prog 29 #[.pointer (some ⟨E, 0, none⟩)] X fun x w' => (∃ c, x = .returned (.pointer (some ⟨c, 0, none⟩)) ∧ CodeAt w' c (comp t 0)) ∧ Below X.heap.size X w') := Lib.hid (fun E X hX => compile_any E t X hX hwf hops (by omega))
 have HRU : Hid (∀ c X, Below w.heap.size w X → CodeAt X c (comp t 0) → Calls Tryz.prog 33 #[.pointer (some ⟨c, 0, none⟩), .pointer v] X fun e w' => ValQ sn rv e w' ∧ Below X.heap.size X w') := Lib.hid (fun c X hX hc => run_ok c t v X val NV sn hc (hE X hX) (hsn.below hX) (htp.below hX) hfit (by omega) (by omega) rv hev hno hkeep)
 clear hp hb hs hsn htp hE hev hkeep hwf hops hsz hns hcn hfit
 go_enter Tryz.func23, Tryz.ntmps23
 go_wp2_with fail
 refine HPA.out.mono ?_
 rintro e w1 ⟨⟨E, rfl, hE⟩, hb1⟩
 have HEX := Lib.hid hE
 have HB1 := Lib.hid hb1
 clear hE hb1
 go_wp2_with fail
 refine (HCO.out E w1 HEX.out).mono ?_
 rintro e w2 ⟨⟨c, rfl, hc⟩, hb2⟩
 have HC := Lib.hid hc
 have HB2 := Lib.hid (HB1.out.trans (hb2.mono HB1.out.size))
 clear hc hb2
 go_wp2_with fail
 refine (HRU.out c w2 HB2.out HC.out).mono ?_
 rintro e w3 ⟨hq, hb3⟩
 have HB3 := Lib.hid (HB2.out.trans (hb3.mono HB2.out.size))
 clear hb3
 cases rv with
 | ok x e' =>
  obtain rfl : e = .returned (.tuple #[.int .i64 x, .nilIface]) := hq
  go_wp2_with fail
  go_ret2
  exact ⟨rfl, HB3.out⟩
 | bad a p =>
  obtain ⟨pv, rfl, her⟩ := hq
  have HER := Lib.hid her
  clear her
  go_wp2_with fail
  go_ret2
  exact ⟨⟨pv, rfl, HER.out⟩, HB3.out⟩
 | no => exact absurd rfl hno
end Go.Proofs.YtkakhfkkeoceiaaGreatDoor
