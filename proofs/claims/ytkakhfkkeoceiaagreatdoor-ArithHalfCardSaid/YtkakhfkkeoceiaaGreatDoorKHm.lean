import Derived.Test.YtkakhfkkeoceiaaGreatDoorKOs
import Derived.Test.YtkakhfkkeoceiaaGreatDoorKDl
import Derived.Test.YtkakhfkkeoceiaaGreatDoorKTx
import Derived.Test.YtkakhfkkeoceiaaGreatDoorKPb
namespace Go.Proofs.YtkakhfkkeoceiaaGreatDoor
open Go.RowKit
def Fst (x : Int) : Prop := (48 ≤ x ∧ x ≤ 57) ∨ letB x = true ∨ x = 40
theorem Fst.white {x : Int} (h : Fst x) : whiteB x = false := by
 unfold Fst letB at h
 unfold whiteB
 simp at h ⊢
 omega
theorem nm_first {s : ByteArray} (h : NmOk s) : ∃ x m, bys s = x :: m ∧ letB x = true := by
 obtain ⟨hne, h⟩ := h
 have hpos := size_pos hne
 have hlen := bys_length s
 have hh := (nmN_is (bys s)).2.1 0 (by omega)
 match hb : bys s with
 | [] => rw [hb] at hlen; simp at hlen; omega
 | x :: m =>
  rw [hb] at hh
  refine ⟨x, m, rfl, ?_⟩
  simpa [nameB] using hh
theorem bys_solid {s : ByteArray} (h : NmOk s) (r : List Int) : ∀ x m, bys s ++ r = x :: m → whiteB x = false := by
 obtain ⟨x, m, e, hf⟩ := nm_first h
 rw [e]
 intro x' m' e'
 simp only [List.cons_append, List.cons.injEq] at e'
 rw [← e'.1]
 exact Fst.white (Or.inr (Or.inl hf))
theorem tokL_nm {s : ByteArray} (h : NmOk s) (r : List Int) (hr : Ends r) (q : Nat) : tokL (bys s ++ r) q = ⟨3, q, q + s.size, s, 0, false⟩ := by
 have hpos := size_pos h.1
 have hlen := bys_length s
 have hn : nmN (bys s ++ r) = s.size := by
  rw [nmN_name (by rw [h.2, hlen]) (fun x m e => ⟨(hr x m e).2, fun _ => (hr x m e).1⟩), hlen]
 rw [tk_nm (by simp; omega) (by omega), hn]
 congr 1
 rw [← hlen, List.take_left]
 exact ofBys_bys s
theorem op_at {s : ByteArray} (h : s ∈ opList) : ∃ i, i < 35 ∧ opList.getD i sEmpty = s := by
 obtain ⟨i, hi, e⟩ := List.mem_iff_getElem.1 h
 exact ⟨i, hi, by rw [List.getD_eq_getElem?_getD, List.getElem?_eq_getElem hi]; exact e⟩
theorem tokL_opS {s : ByteArray} (h : s ∈ opList) (r : List Int) (hr : OpEnds r) (q : Nat) : tokL (bys s ++ r) q = ⟨4, q, q + s.size, s, 0, false⟩ := by
 obtain ⟨i, hi, rfl⟩ := op_at h
 exact tokL_op i hi r hr q
theorem opS_solid {s : ByteArray} (h : s ∈ opList) (r : List Int) : ∀ x m, bys s ++ r = x :: m → whiteB x = false := by
 obtain ⟨i, hi, rfl⟩ := op_at h
 exact op_solid i hi r
def Shut (s : ByteArray) : Prop := asgB s = false ∧ strN s = 0 ∧ ¬ s = sQue
theorem shut_shut : Shut sShut := by unfold Shut; decide
theorem shut_col : Shut sCol := by unfold Shut; decide
def RdOk (L : List Int) (md : Md) (t : Tk) (e : Tr) (t' : Tk) : Prop := ∃ n, ∀ k, rd L (n + k) md t = some (.ok e t')
theorem RdOk.bin0 {L : List Int} {t t' : Tk} {a : Tr} {m : Nat} (h : RdOk L .opd t a t') (hs : strN t'.text < m) : RdOk L (.bin m) t a t' := by
 obtain ⟨n, hn⟩ := h
 refine ⟨n + 2, fun k => ?_⟩
 rw [show n + 2 + k = (n + k + 1) + 1 by omega, bin_of (n := n + k + 1) (by rw [show n + k + 1 = n + (k + 1) by omega]; exact hn _), loop_stop (by omega)]
theorem RdOk.cond0 {L : List Int} {t t' : Tk} {a : Tr} (h : RdOk L (.bin 1) t a t') (hq : ¬ t'.text = sQue) : RdOk L .cond t a t' := by
 obtain ⟨n, hn⟩ := h
 refine ⟨n + 1, fun k => ?_⟩
 rw [show n + 1 + k = (n + k) + 1 by omega, cond_of (hn k) hq]
theorem RdOk.expr0 {L : List Int} {t t' : Tk} {a : Tr} (h : RdOk L .cond t a t') (hq : ¬ (t.kind = 3 ∧ asgB (tok L t.stop).text = true)) : RdOk L .expr t a t' := by
 obtain ⟨n, hn⟩ := h
 refine ⟨n + 1, fun k => ?_⟩
 rw [show n + 1 + k = (n + k) + 1 by omega]
 simp only [rd]
 rw [if_neg hq]
 exact hn k
theorem RdOk.all {L : List Int} {t t' : Tk} {a : Tr} (h : RdOk L .opd t a t') (hs : Shut t'.text) (hk : t.kind = 3 → tok L t.stop = t') : RdOk L .expr t a t' :=
 ((h.bin0 (by rw [hs.2.1]; decide)).cond0 hs.2.2).expr0 fun hh => by
  rw [hk hh.1] at hh
  exact absurd hh.2 (by rw [hs.1]; decide)
theorem RdOk.condOf {L : List Int} {t t1 t2 t3 : Tk} {a y z : Tr} (h : RdOk L (.bin 1) t a t1) (hq : t1.text = sQue) (h2 : RdOk L .expr (tok L t1.stop) y t2) (hc : t2.text = sCol) (h3 : RdOk L .cond (tok L t2.stop) z t3) : RdOk L .cond t (.cond t1.text t1.start a y z) t3 := by
 obtain ⟨n, hn⟩ := h
 obtain ⟨m, hm⟩ := h2
 obtain ⟨p, hp⟩ := h3
 refine ⟨n + m + p + 1, fun k => ?_⟩
 rw [show n + m + p + 1 + k = (n + m + p + k) + 1 by omega]
 simp only [rd]
 rw [show rd L (n + m + p + k) (.bin 1) t = some (.ok a t1) by rw [show n + m + p + k = n + (m + p + k) by omega]; exact hn _]
 simp only []
 rw [if_pos hq, show rd L (n + m + p + k) .expr (tok L t1.stop) = some (.ok y t2) by rw [show n + m + p + k = m + (n + p + k) by omega]; exact hm _]
 simp only []
 rw [if_pos hc, show rd L (n + m + p + k) .cond (tok L t2.stop) = some (.ok z t3) by rw [show n + m + p + k = p + (n + m + k) by omega]; exact hp _]
theorem RdOk.asgOf {L : List Int} {t t2 : Tk} {a : Tr} (hk : t.kind = 3) (ha : asgB (tok L t.stop).text = true) (h : RdOk L .expr (tok L (tok L t.stop).stop) a t2) : RdOk L .expr t (.asg (tok L t.stop).text t.text t.start (tok L t.stop).start a) t2 := by
 obtain ⟨n, hn⟩ := h
 refine ⟨n + 1, fun k => ?_⟩
 rw [show n + 1 + k = (n + k) + 1 by omega]
 simp only [rd]
 rw [if_pos ⟨hk, ha⟩, hn k]
theorem RdOk.parOf {L : List Int} {t t2 : Tk} {a : Tr} (hk : t.kind = 4) (ht : t.text = sOpen) (h : RdOk L .expr (tok L t.stop) a t2) (hs : t2.text = sShut) : RdOk L .opd t a (tok L t2.stop) := by
 obtain ⟨n, hn⟩ := h
 refine ⟨n + 1, fun k => ?_⟩
 rw [show n + 1 + k = (n + k) + 1 by omega]
 simp only [rd]
 rw [if_neg (by rw [hk]; decide), if_neg (by rw [hk]; decide), if_neg (by rw [ht]; decide), if_pos ht, hn k]
 simp only []
 rw [if_pos hs]
theorem ends41 (m : List Int) : Ends (41 :: m) := Ends.cons (by decide)
theorem solid_of {x : Int} (m : List Int) (h : whiteB x = false) : ∀ x' m', x :: m = x' :: m' → whiteB x' = false := by
 intro x' m' e
 simp only [List.cons.injEq] at e
 rw [← e.1]
 exact h
theorem at_first {L y r : List Int} (hL : L = y ++ r) (h : ∀ c m, r = c :: m → whiteB c = false) : tok L y.length = tokL r y.length := by rw [hL]; exact tok_here y r h
theorem back_par {L y M r : List Int} {e : Tr} (hL : L = y ++ (40 :: (M ++ (41 :: r)))) (h : RdOk L .expr (tok L (y.length + 1)) e (tok L (y.length + 1 + M.length))) :
  ((tok L y.length).kind = 3 → (tok L y.length).stop = y.length + (M.length + 2)) ∧ RdOk L .opd (tok L y.length) e (tok L (y.length + (M.length + 2))) := by
 have T0 : tok L y.length = ⟨4, y.length, y.length + 1, sOpen, 0, false⟩ := by
  rw [at_first hL (solid_of _ (by decide)), tokL_paren 40 (Or.inl rfl)]
  rfl
 have hL2 : L = (y ++ 40 :: M) ++ (41 :: r) := by rw [hL]; simp
 have hlen : (y ++ 40 :: M).length = y.length + 1 + M.length := by simp; omega
 have T1 : tok L (y.length + 1 + M.length) = ⟨4, y.length + 1 + M.length, y.length + 1 + M.length + 1, sShut, 0, false⟩ := by
  rw [← hlen, at_first hL2 (solid_of _ (by decide)), tokL_paren 41 (Or.inr rfl)]
  rfl
 refine ⟨fun hk => ?_, ?_⟩
 ·rw [T0] at hk
  exact absurd hk (show ¬ (4 : Int) = 3 by decide)
 ·rw [T0]
  rw [T1] at h
  have := RdOk.parOf (t := ⟨4, y.length, y.length + 1, sOpen, 0, false⟩) rfl rfl h rfl
  rw [show y.length + (M.length + 2) = y.length + 1 + M.length + 1 by omega]
  exact this
theorem tok_shut {L y r : List Int} (hL : L = y ++ (41 :: r)) : tok L y.length = ⟨4, y.length, y.length + 1, sShut, 0, false⟩ := by
 rw [at_first hL (solid_of _ (by decide)), tokL_paren 41 (Or.inr rfl)]
 rfl
theorem tok_sign {L y r : List Int} {s : ByteArray} (hs : s ∈ opList) (hL : L = y ++ (bys s ++ r)) (hr : OpEnds r) : tok L y.length = ⟨4, y.length, y.length + s.size, s, 0, false⟩ := by
 rw [at_first hL (opS_solid hs _), tokL_opS hs r hr]
def shutTB (n : Nat) : Tk := ⟨4, n, n + 1, sShut, 0, false⟩
def LikeB (n : Nat) (t t' : Tk) : Prop := (t' = t ∧ ¬ t.kind = 0) ∨ (t.kind = 0 ∧ t.text = sEmpty ∧ t' = shutTB n)
theorem tok_likeB (l m : List Int) (q : Nat) (h : q ≤ l.length) : LikeB l.length (tok l q) (tok (l ++ 41 :: m) q) := by
 have hsk := skipN_le l q h
 by_cases hs : skipN l q < l.length
 ·left
  refine ⟨tok_appB l m 41 rfl q h (by unfold tok; rw [tokL_start]; exact hs), ?_⟩
  exact tokL_kind (by rw [List.length_drop]; omega)
 ·right
  have e : skipN l q = l.length := by omega
  have e0 : tok l q = ⟨0, l.length, l.length, sEmpty, 0, false⟩ := by
   unfold tok
   rw [e, List.drop_length]
   rfl
  have e1 : pre whiteB (l.drop q) = (l.drop q).length := by
   unfold skipN at e
   rw [List.length_drop]
   omega
  have e2 : skipN (l ++ 41 :: m) q = l.length := by
   unfold skipN
   rw [drop_app h, pre_all _ _ _ e1, List.length_drop]
   have : pre whiteB (41 :: m) = 0 := by simp [pre, whiteB]
   omega
  refine ⟨by rw [e0], by rw [e0], ?_⟩
  unfold tok
  rw [e2, show (l ++ 41 :: m).drop l.length = 41 :: m by rw [List.drop_left], tokL_paren 41 (Or.inr rfl)]
  rfl
theorem LikeB.asg {n : Nat} {t t' : Tk} (h : LikeB n t t') : asgB t'.text = asgB t.text := by
 rcases h with ⟨rfl, _⟩ | ⟨_, h2, rfl⟩
 ·rfl
 ·rw [h2]; show asgB sShut = asgB sEmpty; decide
theorem LikeB.str {n : Nat} {t t' : Tk} (h : LikeB n t t') : strN t'.text = strN t.text := by
 rcases h with ⟨rfl, _⟩ | ⟨_, h2, rfl⟩
 ·rfl
 ·rw [h2]; show strN sShut = strN sEmpty; decide
theorem LikeB.same {n : Nat} {t t' : Tk} (h : LikeB n t t') (hx : ¬ t.text = sEmpty) : t' = t := by
 rcases h with ⟨rfl, _⟩ | ⟨_, h2, _⟩
 ·rfl
 ·exact absurd h2 hx
theorem LikeB.not {n : Nat} {t t' : Tk} (h : LikeB n t t') {s : ByteArray} (hs : s ≠ sShut) (hx : ¬ t.text = s) : ¬ t'.text = s := by
 rcases h with ⟨rfl, _⟩ | ⟨_, _, rfl⟩
 ·exact hx
 ·exact fun h => hs h.symm
theorem rd_likeB (l m : List Int) : ∀ (n : Nat) (md : Md) (t t' : Tk), LikeB l.length t t' → md.Ok → t.Lies l → ∀ e t1, rd l n md t = some (.ok e t1) → ∃ t1', rd (l ++ 41 :: m) n md t' = some (.ok e t1') ∧ LikeB l.length t1 t1'
 | 0, md, t, t', _, _, _, e, t1, h => by cases md <;> simp [rd] at h
 | n + 1, .expr, t, t', ht, _, hl, e, t1, h => by
  rcases ht with ⟨rfl, hk⟩ | ⟨hk, hx, rfl⟩
  rotate_left
  ·exact absurd h ((rd_none l t hk hx (n + 1)).2.2.2 e t1)
  have hu := tok_likeB l m _ hl.2
  have lu := tok_lies l _ hl.2
  simp only [rd] at h ⊢
  rw [hu.asg]
  by_cases c : t'.kind = 3 ∧ asgB (tok l t'.stop).text = true
  ·rw [if_pos c] at h ⊢
   have hs := hu.same (asgB_txt c.2)
   rw [hs]
   have h2 := tok_likeB l m _ lu.2
   generalize hx : rd l n .expr (tok l (tok l t'.stop).stop) = y at h
   match y, hx, h with
   | none, _, h => simp at h
   | some (.bad _ _), _, h => simp at h
   | some (.ok a t2), hx, h =>
    obtain ⟨t2', hr, hlk⟩ := rd_likeB l m n .expr _ _ h2 trivial (tok_lies l _ lu.2) _ _ hx
    simp only [Option.some.injEq, Rs.ok.injEq] at h
    obtain ⟨rfl, rfl⟩ := h
    rw [hr]
    exact ⟨t2', rfl, hlk⟩
  ·rw [if_neg c] at h ⊢
   exact rd_likeB l m n .cond t' t' (Or.inl ⟨rfl, hk⟩) trivial hl e t1 h
 | n + 1, .cond, t, t', ht, _, hl, e, t1, h => by
  rcases ht with ⟨rfl, hk⟩ | ⟨hk, hx, rfl⟩
  rotate_left
  ·exact absurd h ((rd_none l t hk hx (n + 1)).2.2.1 e t1)
  simp only [rd] at h ⊢
  generalize hx : rd l n (.bin 1) t' = y at h
  match y, hx, h with
  | none, _, h => simp at h
  | some (.bad _ _), _, h => simp at h
  | some (.ok a u), hx, h =>
   have lu : u.Lies l := rd_lies l n (.bin 1) t' hl _ hx
   obtain ⟨u', hr, hu⟩ := rd_likeB l m n (.bin 1) t' t' (Or.inl ⟨rfl, hk⟩) (Nat.le_refl 1) hl _ _ hx
   rw [hr]
   simp only [] at h ⊢
   by_cases c : u.text = sQue
   ·have hs := hu.same (by rw [c]; decide)
    subst hs
    rw [if_pos c] at h ⊢
    have h2 := tok_likeB l m _ lu.2
    generalize hy : rd l n .expr (tok l u'.stop) = z at h
    match z, hy, h with
    | none, _, h => simp at h
    | some (.bad _ _), _, h => simp at h
    | some (.ok b v), hy, h =>
     have lv : v.Lies l := rd_lies l n .expr _ (tok_lies l _ lu.2) _ hy
     obtain ⟨v', hr2, hv⟩ := rd_likeB l m n .expr _ _ h2 trivial (tok_lies l _ lu.2) _ _ hy
     rw [hr2]
     simp only [] at h ⊢
     by_cases d : v.text = sCol
     ·have hs := hv.same (by rw [d]; decide)
      subst hs
      rw [if_pos d] at h ⊢
      have h3 := tok_likeB l m _ lv.2
      generalize hz : rd l n .cond (tok l v'.stop) = o at h
      match o, hz, h with
      | none, _, h => simp at h
      | some (.bad _ _), _, h => simp at h
      | some (.ok f q), hz, h =>
       obtain ⟨q', hr3, hq⟩ := rd_likeB l m n .cond _ _ h3 trivial (tok_lies l _ lv.2) _ _ hz
       rw [hr3]
       simp only [Option.some.injEq, Rs.ok.injEq] at h
       obtain ⟨rfl, rfl⟩ := h
       exact ⟨q', rfl, hq⟩
     ·rw [if_neg d] at h
      simp [refuse] at h
   ·rw [if_neg c] at h
    rw [if_neg (hu.not (by decide) c)]
    simp only [Option.some.injEq, Rs.ok.injEq] at h
    obtain ⟨rfl, rfl⟩ := h
    exact ⟨u', rfl, hu⟩
 | n + 1, .bin k, t, t', ht, ho, hl, e, t1, h => by
  rcases ht with ⟨rfl, hk⟩ | ⟨hk, hx, rfl⟩
  rotate_left
  ·exact absurd h ((rd_none l t hk hx (n + 1)).2.1 k e t1)
  simp only [rd] at h ⊢
  generalize hx : rd l n .opd t' = y at h
  match y, hx, h with
  | none, _, h => simp at h
  | some (.bad _ _), _, h => simp at h
  | some (.ok a u), hx, h =>
   have lu : u.Lies l := rd_lies l n .opd t' hl _ hx
   obtain ⟨u', hr, hu⟩ := rd_likeB l m n .opd t' t' (Or.inl ⟨rfl, hk⟩) trivial hl _ _ hx
   rw [hr]
   exact rd_likeB l m n (.loop k a) u u' hu ho lu e t1 h
 | n + 1, .loop k left, t, t', ht, ho, hl, e, t1, h => by
  simp only [rd] at h ⊢
  rw [ht.str]
  by_cases c : k ≤ strN t.text
  ·have hs := ht.same (strN_txt ho c)
   subst hs
   rw [if_pos c] at h ⊢
   have h2 := tok_likeB l m _ hl.2
   generalize hx : rd l n (.bin (strN t'.text + 1)) (tok l t'.stop) = y at h
   match y, hx, h with
   | none, _, h => simp at h
   | some (.bad _ _), _, h => simp at h
   | some (.ok b u), hx, h =>
    have lu : u.Lies l := rd_lies l n _ _ (tok_lies l _ hl.2) _ hx
    obtain ⟨u', hr, hu⟩ := rd_likeB l m n _ _ _ h2 (Nat.le_add_left 1 _) (tok_lies l _ hl.2) _ _ hx
    rw [hr]
    exact rd_likeB l m n (.loop k (.bin t'.text t'.start left b)) u u' hu ho lu e t1 h
  ·rw [if_neg c] at h ⊢
   simp only [Option.some.injEq, Rs.ok.injEq] at h
   obtain ⟨rfl, rfl⟩ := h
   exact ⟨t', rfl, ht⟩
 | n + 1, .opd, t, t', ht, _, hl, e, t1, h => by
  rcases ht with ⟨rfl, hk⟩ | ⟨hk, hx, rfl⟩
  rotate_left
  ·exact absurd h ((rd_none l t hk hx (n + 1)).1 e t1)
  have hu := tok_likeB l m _ hl.2
  have lu := tok_lies l _ hl.2
  simp only [rd] at h ⊢
  rw [goesB_appB l m 41 rfl _ hl.2]
  by_cases c2 : t'.kind = 2
  ·rw [if_pos c2] at h ⊢
   by_cases co : t'.over = true
   ·rw [if_pos co] at h; simp [refuse] at h
   ·rw [if_neg co] at h ⊢
    by_cases cg : goesB l t'.stop = true
    ·rw [if_pos cg] at h; simp at h
    ·rw [if_neg cg] at h ⊢
     simp only [Option.some.injEq, Rs.ok.injEq] at h
     obtain ⟨rfl, rfl⟩ := h
     exact ⟨_, rfl, hu⟩
  rw [if_neg c2] at h ⊢
  by_cases c3 : t'.kind = 3
  ·rw [if_pos c3] at h ⊢
   simp only [Option.some.injEq, Rs.ok.injEq] at h
   obtain ⟨rfl, rfl⟩ := h
   exact ⟨_, rfl, hu⟩
  rw [if_neg c3] at h ⊢
  by_cases cu : ¬ unB t'.text = sEmpty
  ·rw [if_pos cu] at h ⊢
   generalize hx : rd l n .opd (tok l t'.stop) = y at h
   match y, hx, h with
   | none, _, h => simp at h
   | some (.bad _ _), _, h => simp at h
   | some (.ok a u), hx, h =>
    obtain ⟨u', hr, hlk⟩ := rd_likeB l m n .opd _ _ hu trivial lu _ _ hx
    simp only [Option.some.injEq, Rs.ok.injEq] at h
    obtain ⟨rfl, rfl⟩ := h
    rw [hr]
    exact ⟨u', rfl, hlk⟩
  rw [if_neg cu] at h ⊢
  by_cases cp : t'.text = sOpen
  ·rw [if_pos cp] at h ⊢
   generalize hx : rd l n .expr (tok l t'.stop) = y at h
   match y, hx, h with
   | none, _, h => simp at h
   | some (.bad _ _), _, h => simp at h
   | some (.ok a u), hx, h =>
    have lv : u.Lies l := rd_lies l n .expr _ lu _ hx
    obtain ⟨u', hr, hv⟩ := rd_likeB l m n .expr _ _ hu trivial lu _ _ hx
    rw [hr]
    simp only [] at h ⊢
    by_cases cs : u.text = sShut
    ·have hs := hv.same (by rw [cs]; decide)
     subst hs
     rw [if_pos cs] at h ⊢
     simp only [Option.some.injEq, Rs.ok.injEq] at h
     obtain ⟨rfl, rfl⟩ := h
     exact ⟨_, rfl, tok_likeB l m _ lv.2⟩
    ·rw [if_neg cs] at h
     simp [refuse] at h
  ·rw [if_neg cp] at h
   simp [refuse] at h
theorem rd_succ (l : List Int) : ∀ (n : Nat) (md : Md) (t : Tk) (r : Rs), rd l n md t = some r → rd l (n + 1) md t = some r
 | 0, md, t, r, h => by cases md <;> simp [rd] at h
 | n + 1, .expr, t, r, h => by
  rw [rd] at h ⊢
  split
  ·rename_i c
   rw [if_pos c] at h
   cases hx : rd l n .expr (tok l (tok l t.stop).stop) with
   | none => rw [hx] at h; cases h
   | some y => rw [hx] at h; rw [rd_succ l n _ _ _ hx]; exact h
  ·rename_i c
   rw [if_neg c] at h
   exact rd_succ l n _ _ _ h
 | n + 1, .cond, t, r, h => by
  rw [rd] at h ⊢
  cases hx : rd l n (.bin 1) t with
  | none => rw [hx] at h; cases h
  | some y =>
   rw [hx] at h
   rw [rd_succ l n _ _ _ hx]
   cases y with
   | bad c p => exact h
   | ok a t1 =>
    simp only [] at h ⊢
    split
    ·rename_i c
     rw [if_pos c] at h
     cases hy : rd l n .expr (tok l t1.stop) with
     | none => rw [hy] at h; cases h
     | some z =>
      rw [hy] at h
      rw [rd_succ l n _ _ _ hy]
      cases z with
      | bad c p => exact h
      | ok b t2 =>
       simp only [] at h ⊢
       split
       ·rename_i d
        rw [if_pos d] at h
        cases hz : rd l n .cond (tok l t2.stop) with
        | none => rw [hz] at h; cases h
        | some u => rw [hz] at h; rw [rd_succ l n _ _ _ hz]; exact h
       ·rename_i d
        rw [if_neg d] at h
        exact h
    ·rename_i c
     rw [if_neg c] at h
     exact h
 | n + 1, .bin k, t, r, h => by
  rw [rd] at h ⊢
  cases hx : rd l n .opd t with
  | none => rw [hx] at h; cases h
  | some y =>
   rw [hx] at h
   rw [rd_succ l n _ _ _ hx]
   cases y with
   | bad c p => exact h
   | ok a t1 => exact rd_succ l n _ _ _ h
 | n + 1, .loop k left, t, r, h => by
  rw [rd] at h ⊢
  split
  ·rename_i c
   rw [if_pos c] at h
   cases hx : rd l n (.bin (strN t.text + 1)) (tok l t.stop) with
   | none => rw [hx] at h; cases h
   | some y =>
    rw [hx] at h
    rw [rd_succ l n _ _ _ hx]
    cases y with
    | bad c p => exact h
    | ok a t1 => exact rd_succ l n _ _ _ h
  ·rename_i c
   rw [if_neg c] at h
   exact h
 | n + 1, .opd, t, r, h => by
  rw [rd] at h ⊢
  split
  ·rename_i c; rw [if_pos c] at h; exact h
  rename_i c
  rw [if_neg c] at h
  split
  ·rename_i c; rw [if_pos c] at h; exact h
  rename_i c
  rw [if_neg c] at h
  split
  ·rename_i c
   rw [if_pos c] at h
   cases hx : rd l n .opd (tok l t.stop) with
   | none => rw [hx] at h; cases h
   | some y => rw [hx] at h; rw [rd_succ l n _ _ _ hx]; exact h
  rename_i c
  rw [if_neg c] at h
  split
  ·rename_i c
   rw [if_pos c] at h
   cases hx : rd l n .expr (tok l t.stop) with
   | none => rw [hx] at h; cases h
   | some y => rw [hx] at h; rw [rd_succ l n _ _ _ hx]; exact h
  ·rename_i c
   rw [if_neg c] at h
   exact h
theorem rd_more (l : List Int) (n : Nat) (md : Md) (t : Tk) (r : Rs) (h : rd l n md t = some r) : ∀ k, rd l (n + k) md t = some r
 | 0 => h
 | k + 1 => rd_succ l (n + k) md t r (rd_more l n md t r h k)
theorem par_any {b L y r : List Int} {n : Nat} {e : Tr} {t : Tk} (h : parseP b n = some (.ok e t)) (hL : L = y ++ (40 :: (b ++ (41 :: r)))) :
  tok L y.length = ⟨4, y.length, y.length + 1, sOpen, 0, false⟩ ∧ RdOk L .opd (tok L y.length) (e.sh (y.length + 1)) (tok L (y.length + (b.length + 2))) := by
 unfold parseP at h
 by_cases hl : 1024 < b.length
 ·rw [if_pos hl] at h; simp at h
 rw [if_neg hl] at h
 unfold readP at h
 generalize hx : rd b n .expr (tok b 0) = x at h
 match x, hx, h with
 | none, _, h => simp at h
 | some (.bad _ _), _, h => simp at h
 | some (.ok a t1), hx, h =>
  simp only [] at h
  by_cases ck : t1.kind = 0
  rotate_left
  ·rw [if_neg ck] at h; simp [refuse] at h
  rw [if_pos ck] at h
  simp only [Option.some.injEq, Rs.ok.injEq] at h
  obtain ⟨rfl, rfl⟩ := h
  obtain ⟨t', hr, hlk⟩ := rd_likeB b r n .expr _ _ (tok_likeB b r 0 (Nat.zero_le _)) trivial (tok_lies b 0 (Nat.zero_le _)) _ _ hx
  have ht' : t' = shutTB b.length := by
   rcases hlk with ⟨_, h2⟩ | ⟨_, _, h3⟩
   ·exact absurd ck h2
   ·exact h3
  subst ht'
  have hL2 : L = (y ++ [40]) ++ (b ++ 41 :: r) := by rw [hL]; simp
  have hyl : (y ++ [40]).length = y.length + 1 := by simp
  have T0 : tok L y.length = ⟨4, y.length, y.length + 1, sOpen, 0, false⟩ := by
   rw [at_first hL (solid_of _ (by decide)), tokL_paren 40 (Or.inl rfl)]
   rfl
  refine ⟨T0, ?_⟩
  have hs : RdOk L .expr (tok L (y.length + 1)) (a.sh (y.length + 1)) ((shutTB b.length).sh (y.length + 1)) := by
   refine ⟨n, fun k => rd_more L n _ _ _ ?_ k⟩
   have h1 : rd ((y ++ [40]) ++ (b ++ 41 :: r)) n .expr ((tok (b ++ 41 :: r) 0).sh (y ++ [40]).length) = _ := rd_sh (y ++ [40]) (b ++ 41 :: r) n .expr (tok (b ++ 41 :: r) 0)
   have h2 : tok ((y ++ [40]) ++ (b ++ 41 :: r)) ((y ++ [40]).length + 0) = (tok (b ++ 41 :: r) 0).sh (y ++ [40]).length := tok_sh (y ++ [40]) (b ++ 41 :: r) 0
   rw [← hL2, Nat.add_zero] at h2
   rw [← hL2, ← h2, hr, hyl] at h1
   exact h1
  rw [T0]
  have := RdOk.parOf (t := ⟨4, y.length, y.length + 1, sOpen, 0, false⟩) rfl rfl hs rfl
  rw [show y.length + (b.length + 2) = y.length + 1 + (b.length + 1) by omega]
  exact this
theorem RdOk.binLoop {L : List Int} {t t1 t2 : Tk} {a e : Tr} {k : Nat} (h : RdOk L .opd t a t1) (h2 : RdOk L (.loop k a) t1 e t2) : RdOk L (.bin k) t e t2 := by
 obtain ⟨n, hn⟩ := h
 obtain ⟨m, hm⟩ := h2
 refine ⟨n + m + 1, fun j => ?_⟩
 rw [show n + m + 1 + j = (n + m + j) + 1 by omega, bin_of (by rw [show n + m + j = n + (m + j) by omega]; exact hn _), show n + m + j = m + (n + j) by omega]
 exact hm _
theorem RdOk.loopStop {L : List Int} {t : Tk} {a : Tr} {k : Nat} (h : strN t.text < k) : RdOk L (.loop k a) t a t := ⟨1, fun j => by rw [show 1 + j = j + 1 by omega]; exact loop_stop (by omega)⟩
theorem RdOk.loopGo {L : List Int} {t t2 t3 : Tk} {a b e : Tr} {k : Nat} (h : k ≤ strN t.text) (h2 : RdOk L (.bin (strN t.text + 1)) (tok L t.stop) b t2) (h3 : RdOk L (.loop k (.bin t.text t.start a b)) t2 e t3) : RdOk L (.loop k a) t e t3 := by
 obtain ⟨n, hn⟩ := h2
 obtain ⟨m, hm⟩ := h3
 refine ⟨n + m + 1, fun j => ?_⟩
 rw [show n + m + 1 + j = (n + m + j) + 1 by omega, loop_go h (by rw [show n + m + j = n + (m + j) by omega]; exact hn _), show n + m + j = m + (n + j) by omega]
 exact hm _
theorem RdOk.binLoopE {L : List Int} {t t1 t2 : Tk} {a : Tr} {k : Nat} (h : RdOk L .opd t a t1) (h2 : ∃ e, RdOk L (.loop k a) t1 e t2) : ∃ e, RdOk L (.bin k) t e t2 := h2.elim fun e he => ⟨e, RdOk.binLoop h he⟩
theorem RdOk.loopGoE {L : List Int} {t t2 t3 : Tk} {a b : Tr} {k : Nat} (h : k ≤ strN t.text) (h2 : RdOk L (.bin (strN t.text + 1)) (tok L t.stop) b t2) (h3 : ∃ e, RdOk L (.loop k (.bin t.text t.start a b)) t2 e t3) : ∃ e, RdOk L (.loop k a) t e t3 := h3.elim fun e he => ⟨e, RdOk.loopGo h h2 he⟩
theorem RdOk.one {L y r : List Int} {d : Nat} (hd : d < 10) (hL : L = y ++ ((48 + (d : Int)) :: r)) (hr : Ends r) : tok L y.length = ⟨2, y.length, y.length + 1, sEmpty, d, false⟩ ∧ RdOk L .opd (tok L y.length) (.num d y.length) (tok L (y.length + 1)) := by
 have hd1 : dL d = [48 + (d : Int)] := dL_one hd
 have hL' : L = y ++ (dL d ++ r) := by rw [hd1]; exact hL
 have T : tok L y.length = ⟨2, y.length, y.length + 1, sEmpty, d, false⟩ := by
  rw [at_first hL' (dec_solid _ _), tokL_dec d (by omega) r hr, hd1]
  rfl
 refine ⟨T, ?_⟩
 rw [T]
 refine ⟨1, fun k => ?_⟩
 rw [show 1 + k = k + 1 by omega]
 refine opd_numL rfl rfl ?_
 show goesB L (y.length + 1) = false
 have e : L = (y ++ [48 + (d : Int)]) ++ r := by rw [hL]; simp
 rw [e, show y.length + 1 = (y ++ [48 + (d : Int)]).length by simp]
 exact goesB_ends _ r hr
theorem tok_sp {L y r : List Int} (hL : L = y ++ 32 :: r) : tok L y.length = tok L (y.length + 1) := by
 have e : skipN L y.length = skipN L (y.length + 1) := by
  unfold skipN
  rw [hL, List.drop_left, show (y ++ 32 :: r).drop (y.length + 1) = r by rw [drop_sh]; rfl]
  have : pre whiteB (32 :: r) = pre whiteB r + 1 := by simp [pre, whiteB]
  omega
 unfold tok
 rw [e]
theorem oe {x : Int} {m : List Int} (h : 0 ≤ x ∧ x ≤ 255 ∧ x ≠ 61 ∧ x ≠ 60 ∧ x ≠ 62 ∧ x ≠ 38 ∧ x ≠ 124) : OpEnds (x :: m) := fun y k e => by
 simp only [List.cons.injEq] at e
 rw [← e.1]
 exact h
def hM (nm : ByteArray) (b : List Int) : List Int := [49, 47, 48, 43, 40] ++ (bys nm ++ ([61, 53, 41, 43, 40] ++ (b ++ [41])))
def hP (nm : ByteArray) (b : List Int) : List Int := 40 :: (hM nm b ++ [41])
set_option maxHeartbeats 1000000 in
theorem half_par {L y r b : List Int} {nm : ByteArray} (hn : NmOk nm) {n : Nat} {e : Tr} {t : Tk} (hb : parseP b n = some (.ok e t)) (hL : L = y ++ (hP nm b ++ r)) : (tok L y.length).kind = 4 ∧ ∃ X, RdOk L .opd (tok L y.length) X (tok L (y.length + (hP nm b).length)) := by
 have hlen := bys_length nm
 obtain ⟨y0, h0⟩ : ∃ y0, y0 = y ++ [40] := ⟨_, rfl⟩
 obtain ⟨y1, h1⟩ : ∃ y1, y1 = y0 ++ [49] := ⟨_, rfl⟩
 obtain ⟨y2, h2⟩ : ∃ y2, y2 = y1 ++ [47] := ⟨_, rfl⟩
 obtain ⟨y3, h3⟩ : ∃ y3, y3 = y2 ++ [48] := ⟨_, rfl⟩
 obtain ⟨y4, h4⟩ : ∃ y4, y4 = y3 ++ [43] := ⟨_, rfl⟩
 obtain ⟨y5, h5⟩ : ∃ y5, y5 = y4 ++ [40] := ⟨_, rfl⟩
 obtain ⟨y6, h6⟩ : ∃ y6, y6 = y5 ++ bys nm := ⟨_, rfl⟩
 obtain ⟨y7, h7⟩ : ∃ y7, y7 = y6 ++ [61] := ⟨_, rfl⟩
 obtain ⟨y8, h8⟩ : ∃ y8, y8 = y7 ++ [53] := ⟨_, rfl⟩
 obtain ⟨y9, h9⟩ : ∃ y9, y9 = y8 ++ [41] := ⟨_, rfl⟩
 obtain ⟨ya, ha⟩ : ∃ ya, ya = y9 ++ [43] := ⟨_, rfl⟩
 obtain ⟨yb, hyb⟩ : ∃ yb, yb = ya ++ (40 :: (b ++ [41])) := ⟨_, rfl⟩
 have E : L = y ++ (40 :: ([49, 47, 48, 43, 40] ++ (bys nm ++ ([61, 53, 41, 43, 40] ++ (b ++ ([41] ++ ([41] ++ r))))))) := by rw [hL]; simp [hP, hM]
 have Lb : L = yb ++ (41 :: r) := by rw [E, hyb, ha, h9, h8, h7, h6, h5, h4, h3, h2, h1, h0]; simp
 have La : L = ya ++ (40 :: (b ++ (41 :: (41 :: r)))) := by rw [E, ha, h9, h8, h7, h6, h5, h4, h3, h2, h1, h0]; simp
 have L9 : L = y9 ++ (bys ⟨#[43]⟩ ++ (40 :: (b ++ (41 :: (41 :: r))))) := by rw [La, ha]; simp [bys]
 have L8 : L = y8 ++ (41 :: (43 :: (40 :: (b ++ (41 :: (41 :: r)))))) := by rw [La, ha, h9]; simp
 have L7 : L = y7 ++ ((48 + ((5 : Nat) : Int)) :: (41 :: (43 :: (40 :: (b ++ (41 :: (41 :: r))))))) := by rw [L8, h8]; simp
 have L6 : L = y6 ++ (bys ⟨#[61]⟩ ++ (53 :: (41 :: (43 :: (40 :: (b ++ (41 :: (41 :: r)))))))) := by rw [L8, h8, h7]; simp [bys]
 have L5 : L = y5 ++ (bys nm ++ (61 :: (53 :: (41 :: (43 :: (40 :: (b ++ (41 :: (41 :: r))))))))) := by rw [L8, h8, h7, h6]; simp
 have L4 : L = y4 ++ (40 :: ((bys nm ++ [61, 53]) ++ (41 :: (43 :: (40 :: (b ++ (41 :: (41 :: r)))))))) := by rw [L5, h5]; simp
 have L3 : L = y3 ++ (bys ⟨#[43]⟩ ++ (40 :: ((bys nm ++ [61, 53]) ++ (41 :: (43 :: (40 :: (b ++ (41 :: (41 :: r))))))))) := by rw [L4, h4]; simp [bys]
 have L2 : L = y2 ++ ((48 + ((0 : Nat) : Int)) :: (43 :: (40 :: ((bys nm ++ [61, 53]) ++ (41 :: (43 :: (40 :: (b ++ (41 :: (41 :: r)))))))))) := by rw [L4, h4, h3]; simp
 have L1 : L = y1 ++ (bys ⟨#[47]⟩ ++ (48 :: (43 :: (40 :: ((bys nm ++ [61, 53]) ++ (41 :: (43 :: (40 :: (b ++ (41 :: (41 :: r))))))))))) := by rw [L4, h4, h3, h2]; simp [bys]
 have L0 : L = y0 ++ ((48 + ((1 : Nat) : Int)) :: (47 :: (48 :: (43 :: (40 :: ((bys nm ++ [61, 53]) ++ (41 :: (43 :: (40 :: (b ++ (41 :: (41 :: r)))))))))))) := by rw [L4, h4, h3, h2, h1]; simp
 have n0 : y0.length = y.length + 1 := by rw [h0]; simp
 have n1 : y1.length = y0.length + 1 := by rw [h1]; simp
 have n2 : y2.length = y1.length + 1 := by rw [h2]; simp
 have n3 : y3.length = y2.length + 1 := by rw [h3]; simp
 have n4 : y4.length = y3.length + 1 := by rw [h4]; simp
 have n5 : y5.length = y4.length + 1 := by rw [h5]; simp
 have n6 : y6.length = y5.length + nm.size := by rw [h6]; simp [hlen]
 have n7 : y7.length = y6.length + 1 := by rw [h7]; simp
 have n8 : y8.length = y7.length + 1 := by rw [h8]; simp
 have n9 : y9.length = y8.length + 1 := by rw [h9]; simp
 have na : ya.length = y9.length + 1 := by rw [ha]; simp
 have nb : yb.length = ya.length + (b.length + 2) := by rw [hyb]; simp
 have s43 : (⟨#[43]⟩ : ByteArray) ∈ opList := mem_ex (by decide)
 have s47 : (⟨#[47]⟩ : ByteArray) ∈ opList := mem_ex (by decide)
 have s61 : (⟨#[61]⟩ : ByteArray) ∈ opList := mem_ex (by decide)
 obtain ⟨T0, R0⟩ := RdOk.one (by omega) L0 (Ends.cons (by decide))
 have T1 := tok_sign s47 L1 (oe (by decide))
 obtain ⟨T2, R2⟩ := RdOk.one (by omega) L2 (Ends.cons (by decide))
 have T3 := tok_sign s43 L3 (oe (by decide))
 have T5 : tok L y5.length = ⟨3, y5.length, y5.length + nm.size, nm, 0, false⟩ := by rw [at_first L5 (bys_solid hn _), tokL_nm hn _ (Ends.cons (by decide))]
 have T6 := tok_sign s61 L6 (oe (by decide))
 obtain ⟨T7, R7⟩ := RdOk.one (by omega) L7 (ends41 _)
 have T8 := tok_shut L8
 have T9 := tok_sign s43 L9 (oe (by decide))
 obtain ⟨Ta, Ra⟩ := par_any hb La
 have Tb := tok_shut Lb
 simp only [show (⟨#[43]⟩ : ByteArray).size = 1 from rfl, show (⟨#[47]⟩ : ByteArray).size = 1 from rfl, show (⟨#[61]⟩ : ByteArray).size = 1 from rfl] at T1 T3 T6 T9
 rw [← n1] at R0
 rw [← n3] at R2
 rw [← n8] at R7
 rw [← nb] at Ra
 rw [T8] at R7
 have A1 := R7.all shut_shut (fun h => by rw [T7] at h; exact absurd h (show ¬ (2 : Int) = 3 by decide))
 have A2 : RdOk L .expr (tok L y5.length) (.asg (tok L (tok L y5.length).stop).text (tok L y5.length).text (tok L y5.length).start (tok L (tok L y5.length).stop).start (.num ((5 : Nat) : Int) y7.length)) (tok L y8.length) := by
  have s5 : (tok L y5.length).stop = y6.length := by rw [T5]; exact n6.symm
  have s6 : (tok L y6.length).stop = y7.length := by rw [T6]; exact n7.symm
  refine RdOk.asgOf (by rw [T5]) (by rw [s5, T6]; show asgB ⟨#[61]⟩ = true; decide) ?_
  rw [s5, s6, T8]
  exact A1
 have hMl : (bys nm ++ [61, 53] : List Int).length = nm.size + 2 := by simp [hlen]
 obtain ⟨_, A3⟩ := back_par (M := bys nm ++ [61, 53]) L4 (by rw [← n5, hMl, show y5.length + (nm.size + 2) = y8.length by omega]; exact A2)
 rw [hMl, show y4.length + (nm.size + 2 + 2) = y9.length by omega] at A3
 have k0 : (tok L y0.length).kind = 2 := by rw [T0]
 have B2 := RdOk.binLoop R2 (RdOk.loopStop (k := strN ⟨#[47]⟩ + 1) (show strN (tok L y3.length).text < strN ⟨#[47]⟩ + 1 by rw [T3]; show strN ⟨#[43]⟩ < strN ⟨#[47]⟩ + 1; decide))
 have B3 := RdOk.binLoop A3 (RdOk.loopStop (k := strN ⟨#[43]⟩ + 1) (show strN (tok L y9.length).text < strN ⟨#[43]⟩ + 1 by rw [T9]; show strN ⟨#[43]⟩ < strN ⟨#[43]⟩ + 1; decide))
 have B4 := RdOk.binLoop Ra (RdOk.loopStop (k := strN ⟨#[43]⟩ + 1) (show strN (tok L yb.length).text < strN ⟨#[43]⟩ + 1 by rw [Tb]; show strN sShut < strN ⟨#[43]⟩ + 1; decide))
 rw [n2] at B2
 rw [n4] at B3
 rw [na] at B4
 obtain ⟨X, S⟩ : ∃ X, RdOk L (.bin 1) (tok L y0.length) X (tok L yb.length) := by
  refine RdOk.binLoopE R0 ?_
  rw [T1]
  refine RdOk.loopGoE (show 1 ≤ strN ⟨#[47]⟩ by decide) B2 ?_
  rw [T3]
  refine RdOk.loopGoE (show 1 ≤ strN ⟨#[43]⟩ by decide) B3 ?_
  rw [T9]
  refine RdOk.loopGoE (show 1 ≤ strN ⟨#[43]⟩ by decide) B4 ?_
  rw [Tb]
  exact ⟨_, RdOk.loopStop (show strN sShut < 1 by decide)⟩
 have S2 := (S.cond0 (by rw [Tb]; show ¬ sShut = sQue; decide)).expr0 (fun h => by rw [k0] at h; exact absurd h.1 (by decide))
 obtain ⟨hk, S3⟩ := back_par (M := hM nm b) (y := y) (r := r) (L := L) (by rw [hL]; simp [hP]) (by rw [← n0, show y0.length + (hM nm b).length = yb.length by simp [hM, hlen]; omega]; exact S2)
 have T : tok L y.length = ⟨4, y.length, y.length + 1, sOpen, 0, false⟩ := by
  rw [at_first (show L = y ++ (40 :: (hM nm b ++ (41 :: r))) by rw [hL]; simp [hP]) (solid_of _ (by decide)), tokL_paren 40 (Or.inl rfl)]
  rfl
 refine ⟨by rw [T], X, ?_⟩
 rw [show y.length + (hP nm b).length = y.length + ((hM nm b).length + 2) by simp [hP]]
 exact S3
def hC (nm : ByteArray) (b : List Int) : List Int := [49, 32, 63, 32, 55, 32, 58, 32] ++ hP nm b
def hD (nm : ByteArray) (b : List Int) : List Int := [48, 32, 63, 32] ++ (hP nm b ++ [32, 58, 32, 56])
theorem hP_len (nm : ByteArray) (b : List Int) : (hP nm b).length = nm.size + b.length + 13 := by
 have := bys_length nm
 simp [hP, hM, this]
 omega
theorem parse_of {L : List Int} {e : Tr} {t : Tk} (h : RdOk L .expr (tok L 0) e t) (hk : t.kind = 0) (hl : L.length ≤ 1024) : ∃ n, parseP L n = some (.ok e t) := by
 obtain ⟨n, hn⟩ := h
 refine ⟨n, ?_⟩
 unfold parseP readP
 rw [if_neg (by omega), show rd L n .expr (tok L 0) = _ from hn 0]
 simp only []
 rw [if_pos hk]
set_option maxHeartbeats 1000000 in
theorem half_two {nm : ByteArray} (hn : NmOk nm) {b : List Int} {n : Nat} {e : Tr} {t : Tk} (hb : parseP b n = some (.ok e t)) (hl : nm.size + b.length ≤ 1000) (d c : Nat) (op : ByteArray) (hd : d < 10) (hop : op ∈ opList) (hs : 1 ≤ strN op) (hbo : bys op = [(c : Int), (c : Int)]) :
  ∃ k X q p tk, parseP ([48 + (d : Int), 32, (c : Int), (c : Int), 32] ++ hP nm b) k = some (.ok (.bin op q (.num d p) X) tk) := by
 obtain ⟨L, hL⟩ : ∃ L, L = [48 + (d : Int), 32, (c : Int), (c : Int), 32] ++ hP nm b := ⟨_, rfl⟩
 have hsz : op.size = 2 := by have := bys_length op; rw [hbo] at this; simpa using this.symm
 have hll : L.length = 5 + (hP nm b).length := by rw [hL]; simp; omega
 have h0 : L = [] ++ ((48 + (d : Int)) :: (32 :: ([(c : Int), (c : Int), 32] ++ hP nm b))) := by rw [hL]; rfl
 have h1 : L = [48 + (d : Int)] ++ 32 :: ([(c : Int), (c : Int), 32] ++ hP nm b) := by rw [hL]; rfl
 have h2 : L = [48 + (d : Int), 32] ++ (bys op ++ (32 :: hP nm b)) := by rw [hL, hbo]; rfl
 have h4 : L = [48 + (d : Int), 32, (c : Int), (c : Int)] ++ 32 :: hP nm b := by rw [hL]; rfl
 have h5 : L = [48 + (d : Int), 32, (c : Int), (c : Int), 32] ++ (hP nm b ++ []) := by rw [hL, List.append_nil]
 obtain ⟨T0, R0⟩ := RdOk.one hd h0 (Ends.cons (by decide))
 have T1 := tok_sp h1
 have T2 := tok_sign hop h2 (oe (by decide))
 have T4 := tok_sp h4
 obtain ⟨_, X, R5⟩ := half_par hn hb h5
 have Te : tok L ([48 + (d : Int), 32, (c : Int), (c : Int), 32].length + (hP nm b).length) = ⟨0, L.length, L.length, sEmpty, 0, false⟩ := by
  rw [show [48 + (d : Int), 32, (c : Int), (c : Int), 32].length + (hP nm b).length = L.length by rw [hll]; rfl]
  exact tok_last L
 simp only [List.length_cons, List.length_nil, Nat.reduceAdd, Nat.zero_add] at T0 R0 T1 T2 T4 R5 Te
 rw [hsz] at T2
 have hE0 : strN sEmpty = 0 := by decide
 have B5 := RdOk.binLoop R5 (RdOk.loopStop (k := strN op + 1) (show strN (tok L (5 + (hP nm b).length)).text < strN op + 1 by rw [Te]; show strN sEmpty < strN op + 1; omega))
 rw [← T4] at B5
 rw [T1, T2] at R0
 have S := RdOk.binLoop R0 (RdOk.loopGo (k := 1) (show 1 ≤ strN op from hs) B5 (RdOk.loopStop (k := 1) (show strN (tok L (5 + (hP nm b).length)).text < 1 by rw [Te]; show strN sEmpty < 1; decide)))
 rw [Te] at S
 have S2 := (S.cond0 (show ¬ sEmpty = sQue by decide)).expr0 (fun h => by rw [T0] at h; exact absurd h.1 (show ¬ (2 : Int) = 3 by decide))
 obtain ⟨k, hk⟩ := parse_of S2 rfl (by rw [hll, hP_len]; omega)
 rw [← hL]
 exact ⟨k, X, _, _, _, hk⟩
set_option maxHeartbeats 1000000 in
theorem half_c {nm : ByteArray} (hn : NmOk nm) {b : List Int} {n : Nat} {e : Tr} {t : Tk} (hb : parseP b n = some (.ok e t)) (hl : nm.size + b.length ≤ 1000) : ∃ k X q p p2 tk, parseP (hC nm b) k = some (.ok (.cond sQue q (.num 1 p) (.num 7 p2) X) tk) := by
 obtain ⟨L, hL⟩ : ∃ L, L = hC nm b := ⟨_, rfl⟩
 have hll : L.length = 8 + (hP nm b).length := by rw [hL]; simp [hC]; omega
 have h0 : L = [] ++ ((48 + ((1 : Nat) : Int)) :: (32 :: ([63, 32, 55, 32, 58, 32] ++ hP nm b))) := by rw [hL]; rfl
 have h1 : L = [49] ++ 32 :: ([63, 32, 55, 32, 58, 32] ++ hP nm b) := by rw [hL]; rfl
 have h2 : L = [49, 32] ++ (bys sQue ++ (32 :: ([55, 32, 58, 32] ++ hP nm b))) := by rw [hL]; rfl
 have h3 : L = [49, 32, 63] ++ 32 :: ([55, 32, 58, 32] ++ hP nm b) := by rw [hL]; rfl
 have h4 : L = [49, 32, 63, 32] ++ ((48 + ((7 : Nat) : Int)) :: (32 :: ([58, 32] ++ hP nm b))) := by rw [hL]; rfl
 have h5 : L = [49, 32, 63, 32, 55] ++ 32 :: ([58, 32] ++ hP nm b) := by rw [hL]; rfl
 have h6 : L = [49, 32, 63, 32, 55, 32] ++ (bys sCol ++ (32 :: hP nm b)) := by rw [hL]; rfl
 have h7 : L = [49, 32, 63, 32, 55, 32, 58] ++ 32 :: hP nm b := by rw [hL]; rfl
 have h8 : L = [49, 32, 63, 32, 55, 32, 58, 32] ++ (hP nm b ++ []) := by rw [hL, List.append_nil]; rfl
 obtain ⟨T0, R0⟩ := RdOk.one (by omega) h0 (Ends.cons (by decide))
 have T1 := tok_sp h1
 have T2 := tok_sign (s := sQue) (mem_ex (by decide)) h2 (oe (by decide))
 have T3 := tok_sp h3
 obtain ⟨T4, R4⟩ := RdOk.one (by omega) h4 (Ends.cons (by decide))
 have T5 := tok_sp h5
 have T6 := tok_sign (s := sCol) (mem_ex (by decide)) h6 (oe (by decide))
 have T7 := tok_sp h7
 obtain ⟨_, X, R8⟩ := half_par hn hb h8
 simp only [List.length_cons, List.length_nil, Nat.reduceAdd, Nat.zero_add, show sQue.size = 1 from rfl, show sCol.size = 1 from rfl] at T0 R0 T1 T2 T3 T4 R4 T5 T6 T7 R8
 have Te : tok L (8 + (hP nm b).length) = ⟨0, L.length, L.length, sEmpty, 0, false⟩ := by rw [← hll]; exact tok_last L
 rw [Te] at R8
 rw [T1, T2] at R0
 rw [T5, T6] at R4
 have C1 := R0.bin0 (show strN sQue < 1 by decide)
 have C2 := R4.all shut_col (fun h => by rw [T4] at h; exact absurd h (show ¬ (2 : Int) = 3 by decide))
 have C3 := (R8.bin0 (show strN sEmpty < 1 by decide)).cond0 (show ¬ sEmpty = sQue by decide)
 rw [← T3] at C2
 rw [← T7] at C3
 have S := RdOk.condOf C1 rfl C2 rfl C3
 have S2 := S.expr0 (fun h => by rw [T0] at h; exact absurd h.1 (show ¬ (2 : Int) = 3 by decide))
 obtain ⟨k, hk⟩ := parse_of S2 rfl (by rw [hll, hP_len]; omega)
 rw [← hL]
 exact ⟨k, X, _, _, _, _, hk⟩
set_option maxHeartbeats 1000000 in
theorem half_d {nm : ByteArray} (hn : NmOk nm) {b : List Int} {n : Nat} {e : Tr} {t : Tk} (hb : parseP b n = some (.ok e t)) (hl : nm.size + b.length ≤ 1000) : ∃ k X q p p2 tk, parseP (hD nm b) k = some (.ok (.cond sQue q (.num 0 p) X (.num 8 p2)) tk) := by
 obtain ⟨L, hL⟩ : ∃ L, L = hD nm b := ⟨_, rfl⟩
 have hll : L.length = 8 + (hP nm b).length := by rw [hL]; simp [hD]; omega
 have h0 : L = [] ++ ((48 + ((0 : Nat) : Int)) :: (32 :: ([63, 32] ++ (hP nm b ++ [32, 58, 32, 56])))) := by rw [hL]; rfl
 have h1 : L = [48] ++ 32 :: ([63, 32] ++ (hP nm b ++ [32, 58, 32, 56])) := by rw [hL]; rfl
 have h2 : L = [48, 32] ++ (bys sQue ++ (32 :: (hP nm b ++ [32, 58, 32, 56]))) := by rw [hL]; rfl
 have h3 : L = [48, 32, 63] ++ 32 :: (hP nm b ++ [32, 58, 32, 56]) := by rw [hL]; rfl
 have h4 : L = [48, 32, 63, 32] ++ (hP nm b ++ [32, 58, 32, 56]) := by rw [hL]; rfl
 have h5 : L = ([48, 32, 63, 32] ++ hP nm b) ++ 32 :: [58, 32, 56] := by rw [h4]; simp
 have h6 : L = ([48, 32, 63, 32] ++ hP nm b ++ [32]) ++ (bys sCol ++ (32 :: [56])) := by rw [h4]; simp [bys, sCol]
 have h7 : L = ([48, 32, 63, 32] ++ hP nm b ++ [32, 58]) ++ 32 :: [56] := by rw [h4]; simp
 have h8 : L = ([48, 32, 63, 32] ++ hP nm b ++ [32, 58, 32]) ++ ((48 + ((8 : Nat) : Int)) :: []) := by rw [h4]; simp
 obtain ⟨T0, R0⟩ := RdOk.one (by omega) h0 (Ends.cons (by decide))
 have T1 := tok_sp h1
 have T2 := tok_sign (s := sQue) (mem_ex (by decide)) h2 (oe (by decide))
 have T3 := tok_sp h3
 obtain ⟨T4, X, R4⟩ := half_par hn hb h4
 have T5 := tok_sp h5
 have T6 := tok_sign (s := sCol) (mem_ex (by decide)) h6 (oe (by decide))
 have T7 := tok_sp h7
 obtain ⟨T8, R8⟩ := RdOk.one (by omega) h8 Ends.nil
 simp only [List.length_append, List.length_cons, List.length_nil, Nat.reduceAdd, Nat.zero_add, show sQue.size = 1 from rfl, show sCol.size = 1 from rfl] at T0 R0 T1 T2 T3 T4 R4 T5 T6 T7 T8 R8
 have Te : tok L (4 + (hP nm b).length + 3 + 1) = ⟨0, L.length, L.length, sEmpty, 0, false⟩ := by rw [show 4 + (hP nm b).length + 3 + 1 = L.length by omega]; exact tok_last L
 rw [Te] at R8
 rw [T1, T2] at R0
 rw [T5, T6] at R4
 have C1 := R0.bin0 (show strN sQue < 1 by decide)
 have C2 := R4.all shut_col (fun h => by rw [T4] at h; exact absurd h (by decide))
 have C3 := (R8.bin0 (show strN sEmpty < 1 by decide)).cond0 (show ¬ sEmpty = sQue by decide)
 rw [← T3] at C2
 rw [← T7] at C3
 have S := RdOk.condOf C1 rfl C2 rfl C3
 have S2 := S.expr0 (fun h => by rw [T0] at h; exact absurd h.1 (show ¬ (2 : Int) = 3 by decide))
 obtain ⟨k, hk⟩ := parse_of S2 rfl (by rw [hll, hP_len]; omega)
 rw [← hL]
 exact ⟨k, X, _, _, _, _, hk⟩
end Go.Proofs.YtkakhfkkeoceiaaGreatDoor
