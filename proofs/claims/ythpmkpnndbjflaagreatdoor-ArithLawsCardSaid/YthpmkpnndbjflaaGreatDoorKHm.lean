/- KHm: several texts in one (kmerge.py). -/
import Derived.Test.YthpmkpnndbjflaaGreatDoorKOs
import Derived.Test.YthpmkpnndbjflaaGreatDoorKDl
import Derived.Test.YthpmkpnndbjflaaGreatDoorKTx
import Derived.Test.YthpmkpnndbjflaaGreatDoorKPb
/- Plain facts: a tree written with all its parentheses, read again. No program. -/
namespace Go.Proofs.YthpmkpnndbjflaaGreatDoor
open Go.RowKit

theorem op_at {s : ByteArray} (h : s ∈ opList) : ∃ i, i < 35 ∧ opList.getD i sEmpty = s := by
  obtain ⟨i, hi, e⟩ := List.mem_iff_getElem.1 h
  exact ⟨i, hi, by rw [List.getD_eq_getElem?_getD, List.getElem?_eq_getElem hi]; exact e⟩
theorem tokL_opS {s : ByteArray} (h : s ∈ opList) (r : List Int) (hr : OpEnds r) (q : Nat) : tokL (bys s ++ r) q = ⟨4, q, q + s.size, s, 0, false⟩ := by
  obtain ⟨i, hi, rfl⟩ := op_at h
  exact tokL_op i hi r hr q
theorem opS_solid {s : ByteArray} (h : s ∈ opList) (r : List Int) : ∀ x m, bys s ++ r = x :: m → whiteB x = false := by
  obtain ⟨i, hi, rfl⟩ := op_at h
  exact op_solid i hi r
/-- A token that ends an operand and what it stands in. -/
def Shut (s : ByteArray) : Prop := asgB s = false ∧ strN s = 0 ∧ ¬ s = sQue
theorem shut_shut : Shut sShut := by unfold Shut; decide
/-- Reading tells it, by so many calls or more. -/
def RdOk (L : List Int) (md : Md) (t : Tk) (e : Tr) (t' : Tk) : Prop := ∃ n, ∀ k, rd L (n + k) md t = some (.ok e t')
theorem RdOk.bin0 {L : List Int} {t t' : Tk} {a : Tr} {m : Nat} (h : RdOk L .opd t a t') (hs : strN t'.text < m) : RdOk L (.bin m) t a t' := by
  obtain ⟨n, hn⟩ := h
  refine ⟨n + 2, fun k => ?_⟩
  rw [show n + 2 + k = (n + k + 1) + 1 by omega, bin_of (n := n + k + 1) (by rw [show n + k + 1 = n + (k + 1) by omega]; exact hn _), loop_stop (by omega)]
theorem RdOk.cond0 {L : List Int} {t t' : Tk} {a : Tr} (h : RdOk L (.bin 1) t a t') (hq : ¬ t'.text = sQue) : RdOk L .cond t a t' := by
  obtain ⟨n, hn⟩ := h
  refine ⟨n + 1, fun k => ?_⟩
  rw [show n + 1 + k = (n + k) + 1 by omega, cond_of (hn k) hq]
theorem RdOk.expr0 {L : List Int} {t t' : Tk} {a : Tr} (h : RdOk L .cond t a t') (hq : ¬ (t.kind = 3 ∧ asgB (tok L t.stop).text = true)) : RdOk L .expr t a t' := by
  obtain ⟨n, hn⟩ := h
  refine ⟨n + 1, fun k => ?_⟩
  rw [show n + 1 + k = (n + k) + 1 by omega]
  simp only [rd]
  rw [if_neg hq]
  exact hn k
/-- An operand alone. -/
theorem RdOk.all {L : List Int} {t t' : Tk} {a : Tr} (h : RdOk L .opd t a t') (hs : Shut t'.text) (hk : t.kind = 3 → tok L t.stop = t') : RdOk L .expr t a t' :=
  ((h.bin0 (by rw [hs.2.1]; decide)).cond0 hs.2.2).expr0 fun hh => by
    rw [hk hh.1] at hh
    exact absurd hh.2 (by rw [hs.1]; decide)
theorem RdOk.binOf {L : List Int} {t t1 t2 : Tk} {a b : Tr} (h : RdOk L .opd t a t1) (hs : 1 ≤ strN t1.text) (h2 : RdOk L .opd (tok L t1.stop) b t2) (hz : strN t2.text = 0) : RdOk L (.bin 1) t (.bin t1.text t1.start a b) t2 := by
  obtain ⟨n, hn⟩ := h
  obtain ⟨m, hm⟩ := h2.bin0 (m := strN t1.text + 1) (by omega)
  refine ⟨n + m + 3, fun k => ?_⟩
  rw [show n + m + 3 + k = (n + m + k + 2) + 1 by omega, bin_of (by rw [show n + m + k + 2 = n + (m + k + 2) by omega]; exact hn _)]
  rw [show n + m + k + 2 = (n + m + k + 1) + 1 by omega, loop_go hs (by rw [show n + m + k + 1 = m + (n + k + 1) by omega]; exact hm _)]
  rw [loop_stop (by omega)]
theorem RdOk.unOf {L : List Int} {t t2 : Tk} {a : Tr} (hk : t.kind = 4) (hu : ¬ unB t.text = sEmpty) (h : RdOk L .opd (tok L t.stop) a t2) : RdOk L .opd t (.un (unB t.text) t.start a) t2 := by
  obtain ⟨n, hn⟩ := h
  refine ⟨n + 1, fun k => ?_⟩
  rw [show n + 1 + k = (n + k) + 1 by omega]
  simp only [rd]
  rw [if_neg (by rw [hk]; decide), if_neg (by rw [hk]; decide), if_pos hu, hn k]
theorem RdOk.parOf {L : List Int} {t t2 : Tk} {a : Tr} (hk : t.kind = 4) (ht : t.text = sOpen) (h : RdOk L .expr (tok L t.stop) a t2) (hs : t2.text = sShut) : RdOk L .opd t a (tok L t2.stop) := by
  obtain ⟨n, hn⟩ := h
  refine ⟨n + 1, fun k => ?_⟩
  rw [show n + 1 + k = (n + k) + 1 by omega]
  simp only [rd]
  rw [if_neg (by rw [hk]; decide), if_neg (by rw [hk]; decide), if_neg (by rw [ht]; decide), if_pos ht, hn k]
  simp only []
  rw [if_pos hs]

theorem solid_of {x : Int} (m : List Int) (h : whiteB x = false) : ∀ x' m', x :: m = x' :: m' → whiteB x' = false := by
  intro x' m' e
  simp only [List.cons.injEq] at e
  rw [← e.1]
  exact h
theorem at_first {L y r : List Int} (hL : L = y ++ r) (h : ∀ c m, r = c :: m → whiteB c = false) : tok L y.length = tokL r y.length := by rw [hL]; exact tok_here y r h

/-- What stands in parentheses. -/
theorem back_par {L y M r : List Int} {e : Tr} (hL : L = y ++ (40 :: (M ++ (41 :: r)))) (h : RdOk L .expr (tok L (y.length + 1)) e (tok L (y.length + 1 + M.length))) :
    ((tok L y.length).kind = 3 → (tok L y.length).stop = y.length + (M.length + 2)) ∧ RdOk L .opd (tok L y.length) e (tok L (y.length + (M.length + 2))) := by
  have T0 : tok L y.length = ⟨4, y.length, y.length + 1, sOpen, 0, false⟩ := by
    rw [at_first hL (solid_of _ (by decide)), tokL_paren 40 (Or.inl rfl)]
    rfl
  have hL2 : L = (y ++ 40 :: M) ++ (41 :: r) := by rw [hL]; simp
  have hlen : (y ++ 40 :: M).length = y.length + 1 + M.length := by simp; omega
  have T1 : tok L (y.length + 1 + M.length) = ⟨4, y.length + 1 + M.length, y.length + 1 + M.length + 1, sShut, 0, false⟩ := by
    rw [← hlen, at_first hL2 (solid_of _ (by decide)), tokL_paren 41 (Or.inr rfl)]
    rfl
  refine ⟨fun hk => ?_, ?_⟩
  · rw [T0] at hk
    exact absurd hk (show ¬ (4 : Int) = 3 by decide)
  · rw [T0]
    rw [T1] at h
    have := RdOk.parOf (t := ⟨4, y.length, y.length + 1, sOpen, 0, false⟩) rfl rfl h rfl
    rw [show y.length + (M.length + 2) = y.length + 1 + M.length + 1 by omega]
    exact this
/-- The token that shuts, behind what stands in parentheses. -/
theorem tok_shut {L y r : List Int} (hL : L = y ++ (41 :: r)) : tok L y.length = ⟨4, y.length, y.length + 1, sShut, 0, false⟩ := by
  rw [at_first hL (solid_of _ (by decide)), tokL_paren 41 (Or.inr rfl)]
  rfl
theorem tok_sign {L y r : List Int} {s : ByteArray} (hs : s ∈ opList) (hL : L = y ++ (bys s ++ r)) (hr : OpEnds r) : tok L y.length = ⟨4, y.length, y.length + s.size, s, 0, false⟩ := by
  rw [at_first hL (opS_solid hs _), tokL_opS hs r hr]

end Go.Proofs.YthpmkpnndbjflaaGreatDoor
/- Plain facts: an expression within parentheses, wherever it stands (gen_arextb.py). No program. -/
namespace Go.Proofs.YthpmkpnndbjflaaGreatDoor
open Go.RowKit

/-- The parenthesis that shuts behind a text of n bytes. -/
def shutTB (n : Nat) : Tk := ⟨4, n, n + 1, sShut, 0, false⟩
def LikeB (n : Nat) (t t' : Tk) : Prop := (t' = t ∧ ¬ t.kind = 0) ∨ (t.kind = 0 ∧ t.text = sEmpty ∧ t' = shutTB n)

theorem tok_likeB (l m : List Int) (q : Nat) (h : q ≤ l.length) : LikeB l.length (tok l q) (tok (l ++ 41 :: m) q) := by
  have hsk := skipN_le l q h
  by_cases hs : skipN l q < l.length
  · left
    refine ⟨tok_appB l m 41 rfl q h (by unfold tok; rw [tokL_start]; exact hs), ?_⟩
    exact tokL_kind (by rw [List.length_drop]; omega)
  · right
    have e : skipN l q = l.length := by omega
    have e0 : tok l q = ⟨0, l.length, l.length, sEmpty, 0, false⟩ := by
      unfold tok
      rw [e, List.drop_length]
      rfl
    have e1 : pre whiteB (l.drop q) = (l.drop q).length := by
      unfold skipN at e
      rw [List.length_drop]
      omega
    have e2 : skipN (l ++ 41 :: m) q = l.length := by
      unfold skipN
      rw [drop_app h, pre_all _ _ _ e1, List.length_drop]
      have : pre whiteB (41 :: m) = 0 := by simp [pre, whiteB]
      omega
    refine ⟨by rw [e0], by rw [e0], ?_⟩
    unfold tok
    rw [e2, show (l ++ 41 :: m).drop l.length = 41 :: m by rw [List.drop_left], tokL_paren 41 (Or.inr rfl)]
    rfl

theorem LikeB.asg {n : Nat} {t t' : Tk} (h : LikeB n t t') : asgB t'.text = asgB t.text := by
  rcases h with ⟨rfl, _⟩ | ⟨_, h2, rfl⟩
  · rfl
  · rw [h2]; show asgB sShut = asgB sEmpty; decide
theorem LikeB.str {n : Nat} {t t' : Tk} (h : LikeB n t t') : strN t'.text = strN t.text := by
  rcases h with ⟨rfl, _⟩ | ⟨_, h2, rfl⟩
  · rfl
  · rw [h2]; show strN sShut = strN sEmpty; decide
theorem LikeB.same {n : Nat} {t t' : Tk} (h : LikeB n t t') (hx : ¬ t.text = sEmpty) : t' = t := by
  rcases h with ⟨rfl, _⟩ | ⟨_, h2, _⟩
  · rfl
  · exact absurd h2 hx
theorem LikeB.not {n : Nat} {t t' : Tk} (h : LikeB n t t') {s : ByteArray} (hs : s ≠ sShut) (hx : ¬ t.text = s) : ¬ t'.text = s := by
  rcases h with ⟨rfl, _⟩ | ⟨_, _, rfl⟩
  · exact hx
  · exact fun h => hs h.symm

/-- Reading that told an expression tells it where a parenthesis shuts behind. -/
theorem rd_likeB (l m : List Int) : ∀ (n : Nat) (md : Md) (t t' : Tk), LikeB l.length t t' → md.Ok → t.Lies l → ∀ e t1, rd l n md t = some (.ok e t1) → ∃ t1', rd (l ++ 41 :: m) n md t' = some (.ok e t1') ∧ LikeB l.length t1 t1'
  | 0, md, t, t', _, _, _, e, t1, h => by cases md <;> simp [rd] at h
  | n + 1, .expr, t, t', ht, _, hl, e, t1, h => by
    rcases ht with ⟨rfl, hk⟩ | ⟨hk, hx, rfl⟩
    rotate_left
    · exact absurd h ((rd_none l t hk hx (n + 1)).2.2.2 e t1)
    have hu := tok_likeB l m _ hl.2
    have lu := tok_lies l _ hl.2
    simp only [rd] at h ⊢
    rw [hu.asg]
    by_cases c : t'.kind = 3 ∧ asgB (tok l t'.stop).text = true
    · rw [if_pos c] at h ⊢
      have hs := hu.same (asgB_txt c.2)
      rw [hs]
      have h2 := tok_likeB l m _ lu.2
      generalize hx : rd l n .expr (tok l (tok l t'.stop).stop) = y at h
      match y, hx, h with
      | none, _, h => simp at h
      | some (.bad _ _), _, h => simp at h
      | some (.ok a t2), hx, h =>
        obtain ⟨t2', hr, hlk⟩ := rd_likeB l m n .expr _ _ h2 trivial (tok_lies l _ lu.2) _ _ hx
        simp only [Option.some.injEq, Rs.ok.injEq] at h
        obtain ⟨rfl, rfl⟩ := h
        rw [hr]
        exact ⟨t2', rfl, hlk⟩
    · rw [if_neg c] at h ⊢
      exact rd_likeB l m n .cond t' t' (Or.inl ⟨rfl, hk⟩) trivial hl e t1 h
  | n + 1, .cond, t, t', ht, _, hl, e, t1, h => by
    rcases ht with ⟨rfl, hk⟩ | ⟨hk, hx, rfl⟩
    rotate_left
    · exact absurd h ((rd_none l t hk hx (n + 1)).2.2.1 e t1)
    simp only [rd] at h ⊢
    generalize hx : rd l n (.bin 1) t' = y at h
    match y, hx, h with
    | none, _, h => simp at h
    | some (.bad _ _), _, h => simp at h
    | some (.ok a u), hx, h =>
      have lu : u.Lies l := rd_lies l n (.bin 1) t' hl _ hx
      obtain ⟨u', hr, hu⟩ := rd_likeB l m n (.bin 1) t' t' (Or.inl ⟨rfl, hk⟩) (Nat.le_refl 1) hl _ _ hx
      rw [hr]
      simp only [] at h ⊢
      by_cases c : u.text = sQue
      · have hs := hu.same (by rw [c]; decide)
        subst hs
        rw [if_pos c] at h ⊢
        have h2 := tok_likeB l m _ lu.2
        generalize hy : rd l n .expr (tok l u'.stop) = z at h
        match z, hy, h with
        | none, _, h => simp at h
        | some (.bad _ _), _, h => simp at h
        | some (.ok b v), hy, h =>
          have lv : v.Lies l := rd_lies l n .expr _ (tok_lies l _ lu.2) _ hy
          obtain ⟨v', hr2, hv⟩ := rd_likeB l m n .expr _ _ h2 trivial (tok_lies l _ lu.2) _ _ hy
          rw [hr2]
          simp only [] at h ⊢
          by_cases d : v.text = sCol
          · have hs := hv.same (by rw [d]; decide)
            subst hs
            rw [if_pos d] at h ⊢
            have h3 := tok_likeB l m _ lv.2
            generalize hz : rd l n .cond (tok l v'.stop) = o at h
            match o, hz, h with
            | none, _, h => simp at h
            | some (.bad _ _), _, h => simp at h
            | some (.ok f q), hz, h =>
              obtain ⟨q', hr3, hq⟩ := rd_likeB l m n .cond _ _ h3 trivial (tok_lies l _ lv.2) _ _ hz
              rw [hr3]
              simp only [Option.some.injEq, Rs.ok.injEq] at h
              obtain ⟨rfl, rfl⟩ := h
              exact ⟨q', rfl, hq⟩
          · rw [if_neg d] at h
            simp [refuse] at h
      · rw [if_neg c] at h
        rw [if_neg (hu.not (by decide) c)]
        simp only [Option.some.injEq, Rs.ok.injEq] at h
        obtain ⟨rfl, rfl⟩ := h
        exact ⟨u', rfl, hu⟩
  | n + 1, .bin k, t, t', ht, ho, hl, e, t1, h => by
    rcases ht with ⟨rfl, hk⟩ | ⟨hk, hx, rfl⟩
    rotate_left
    · exact absurd h ((rd_none l t hk hx (n + 1)).2.1 k e t1)
    simp only [rd] at h ⊢
    generalize hx : rd l n .opd t' = y at h
    match y, hx, h with
    | none, _, h => simp at h
    | some (.bad _ _), _, h => simp at h
    | some (.ok a u), hx, h =>
      have lu : u.Lies l := rd_lies l n .opd t' hl _ hx
      obtain ⟨u', hr, hu⟩ := rd_likeB l m n .opd t' t' (Or.inl ⟨rfl, hk⟩) trivial hl _ _ hx
      rw [hr]
      exact rd_likeB l m n (.loop k a) u u' hu ho lu e t1 h
  | n + 1, .loop k left, t, t', ht, ho, hl, e, t1, h => by
    simp only [rd] at h ⊢
    rw [ht.str]
    by_cases c : k ≤ strN t.text
    · have hs := ht.same (strN_txt ho c)
      subst hs
      rw [if_pos c] at h ⊢
      have h2 := tok_likeB l m _ hl.2
      generalize hx : rd l n (.bin (strN t'.text + 1)) (tok l t'.stop) = y at h
      match y, hx, h with
      | none, _, h => simp at h
      | some (.bad _ _), _, h => simp at h
      | some (.ok b u), hx, h =>
        have lu : u.Lies l := rd_lies l n _ _ (tok_lies l _ hl.2) _ hx
        obtain ⟨u', hr, hu⟩ := rd_likeB l m n _ _ _ h2 (Nat.le_add_left 1 _) (tok_lies l _ hl.2) _ _ hx
        rw [hr]
        exact rd_likeB l m n (.loop k (.bin t'.text t'.start left b)) u u' hu ho lu e t1 h
    · rw [if_neg c] at h ⊢
      simp only [Option.some.injEq, Rs.ok.injEq] at h
      obtain ⟨rfl, rfl⟩ := h
      exact ⟨t', rfl, ht⟩
  | n + 1, .opd, t, t', ht, _, hl, e, t1, h => by
    rcases ht with ⟨rfl, hk⟩ | ⟨hk, hx, rfl⟩
    rotate_left
    · exact absurd h ((rd_none l t hk hx (n + 1)).1 e t1)
    have hu := tok_likeB l m _ hl.2
    have lu := tok_lies l _ hl.2
    simp only [rd] at h ⊢
    rw [goesB_appB l m 41 rfl _ hl.2]
    by_cases c2 : t'.kind = 2
    · rw [if_pos c2] at h ⊢
      by_cases co : t'.over = true
      · rw [if_pos co] at h; simp [refuse] at h
      · rw [if_neg co] at h ⊢
        by_cases cg : goesB l t'.stop = true
        · rw [if_pos cg] at h; simp at h
        · rw [if_neg cg] at h ⊢
          simp only [Option.some.injEq, Rs.ok.injEq] at h
          obtain ⟨rfl, rfl⟩ := h
          exact ⟨_, rfl, hu⟩
    rw [if_neg c2] at h ⊢
    by_cases c3 : t'.kind = 3
    · rw [if_pos c3] at h ⊢
      simp only [Option.some.injEq, Rs.ok.injEq] at h
      obtain ⟨rfl, rfl⟩ := h
      exact ⟨_, rfl, hu⟩
    rw [if_neg c3] at h ⊢
    by_cases cu : ¬ unB t'.text = sEmpty
    · rw [if_pos cu] at h ⊢
      generalize hx : rd l n .opd (tok l t'.stop) = y at h
      match y, hx, h with
      | none, _, h => simp at h
      | some (.bad _ _), _, h => simp at h
      | some (.ok a u), hx, h =>
        obtain ⟨u', hr, hlk⟩ := rd_likeB l m n .opd _ _ hu trivial lu _ _ hx
        simp only [Option.some.injEq, Rs.ok.injEq] at h
        obtain ⟨rfl, rfl⟩ := h
        rw [hr]
        exact ⟨u', rfl, hlk⟩
    rw [if_neg cu] at h ⊢
    by_cases cp : t'.text = sOpen
    · rw [if_pos cp] at h ⊢
      generalize hx : rd l n .expr (tok l t'.stop) = y at h
      match y, hx, h with
      | none, _, h => simp at h
      | some (.bad _ _), _, h => simp at h
      | some (.ok a u), hx, h =>
        have lv : u.Lies l := rd_lies l n .expr _ lu _ hx
        obtain ⟨u', hr, hv⟩ := rd_likeB l m n .expr _ _ hu trivial lu _ _ hx
        rw [hr]
        simp only [] at h ⊢
        by_cases cs : u.text = sShut
        · have hs := hv.same (by rw [cs]; decide)
          subst hs
          rw [if_pos cs] at h ⊢
          simp only [Option.some.injEq, Rs.ok.injEq] at h
          obtain ⟨rfl, rfl⟩ := h
          exact ⟨_, rfl, tok_likeB l m _ lv.2⟩
        · rw [if_neg cs] at h
          simp [refuse] at h
    · rw [if_neg cp] at h
      simp [refuse] at h


/-- More calls tell the same. -/
theorem rd_succ (l : List Int) : ∀ (n : Nat) (md : Md) (t : Tk) (r : Rs), rd l n md t = some r → rd l (n + 1) md t = some r
  | 0, md, t, r, h => by cases md <;> simp [rd] at h
  | n + 1, .expr, t, r, h => by
    rw [rd] at h ⊢
    split
    · rename_i c
      rw [if_pos c] at h
      cases hx : rd l n .expr (tok l (tok l t.stop).stop) with
      | none => rw [hx] at h; cases h
      | some y => rw [hx] at h; rw [rd_succ l n _ _ _ hx]; exact h
    · rename_i c
      rw [if_neg c] at h
      exact rd_succ l n _ _ _ h
  | n + 1, .cond, t, r, h => by
    rw [rd] at h ⊢
    cases hx : rd l n (.bin 1) t with
    | none => rw [hx] at h; cases h
    | some y =>
      rw [hx] at h
      rw [rd_succ l n _ _ _ hx]
      cases y with
      | bad c p => exact h
      | ok a t1 =>
        simp only [] at h ⊢
        split
        · rename_i c
          rw [if_pos c] at h
          cases hy : rd l n .expr (tok l t1.stop) with
          | none => rw [hy] at h; cases h
          | some z =>
            rw [hy] at h
            rw [rd_succ l n _ _ _ hy]
            cases z with
            | bad c p => exact h
            | ok b t2 =>
              simp only [] at h ⊢
              split
              · rename_i d
                rw [if_pos d] at h
                cases hz : rd l n .cond (tok l t2.stop) with
                | none => rw [hz] at h; cases h
                | some u => rw [hz] at h; rw [rd_succ l n _ _ _ hz]; exact h
              · rename_i d
                rw [if_neg d] at h
                exact h
        · rename_i c
          rw [if_neg c] at h
          exact h
  | n + 1, .bin k, t, r, h => by
    rw [rd] at h ⊢
    cases hx : rd l n .opd t with
    | none => rw [hx] at h; cases h
    | some y =>
      rw [hx] at h
      rw [rd_succ l n _ _ _ hx]
      cases y with
      | bad c p => exact h
      | ok a t1 => exact rd_succ l n _ _ _ h
  | n + 1, .loop k left, t, r, h => by
    rw [rd] at h ⊢
    split
    · rename_i c
      rw [if_pos c] at h
      cases hx : rd l n (.bin (strN t.text + 1)) (tok l t.stop) with
      | none => rw [hx] at h; cases h
      | some y =>
        rw [hx] at h
        rw [rd_succ l n _ _ _ hx]
        cases y with
        | bad c p => exact h
        | ok a t1 => exact rd_succ l n _ _ _ h
    · rename_i c
      rw [if_neg c] at h
      exact h
  | n + 1, .opd, t, r, h => by
    rw [rd] at h ⊢
    split
    · rename_i c; rw [if_pos c] at h; exact h
    rename_i c
    rw [if_neg c] at h
    split
    · rename_i c; rw [if_pos c] at h; exact h
    rename_i c
    rw [if_neg c] at h
    split
    · rename_i c
      rw [if_pos c] at h
      cases hx : rd l n .opd (tok l t.stop) with
      | none => rw [hx] at h; cases h
      | some y => rw [hx] at h; rw [rd_succ l n _ _ _ hx]; exact h
    rename_i c
    rw [if_neg c] at h
    split
    · rename_i c
      rw [if_pos c] at h
      cases hx : rd l n .expr (tok l t.stop) with
      | none => rw [hx] at h; cases h
      | some y => rw [hx] at h; rw [rd_succ l n _ _ _ hx]; exact h
    · rename_i c
      rw [if_neg c] at h
      exact h
theorem rd_more (l : List Int) (n : Nat) (md : Md) (t : Tk) (r : Rs) (h : rd l n md t = some r) : ∀ k, rd l (n + k) md t = some r
  | 0 => h
  | k + 1 => rd_succ l (n + k) md t r (rd_more l n md t r h k)
/-- A TEXT THAT IS AN EXPRESSION, IN PARENTHESES, WHEREVER IT STANDS. -/
theorem par_any {b L y r : List Int} {n : Nat} {e : Tr} {t : Tk} (h : parseP b n = some (.ok e t)) (hL : L = y ++ (40 :: (b ++ (41 :: r)))) :
    tok L y.length = ⟨4, y.length, y.length + 1, sOpen, 0, false⟩ ∧ RdOk L .opd (tok L y.length) (e.sh (y.length + 1)) (tok L (y.length + (b.length + 2))) := by
  unfold parseP at h
  by_cases hl : 1024 < b.length
  · rw [if_pos hl] at h; simp at h
  rw [if_neg hl] at h
  unfold readP at h
  generalize hx : rd b n .expr (tok b 0) = x at h
  match x, hx, h with
  | none, _, h => simp at h
  | some (.bad _ _), _, h => simp at h
  | some (.ok a t1), hx, h =>
    simp only [] at h
    by_cases ck : t1.kind = 0
    rotate_left
    · rw [if_neg ck] at h; simp [refuse] at h
    rw [if_pos ck] at h
    simp only [Option.some.injEq, Rs.ok.injEq] at h
    obtain ⟨rfl, rfl⟩ := h
    obtain ⟨t', hr, hlk⟩ := rd_likeB b r n .expr _ _ (tok_likeB b r 0 (Nat.zero_le _)) trivial (tok_lies b 0 (Nat.zero_le _)) _ _ hx
    have ht' : t' = shutTB b.length := by
      rcases hlk with ⟨_, h2⟩ | ⟨_, _, h3⟩
      · exact absurd ck h2
      · exact h3
    subst ht'
    have hL2 : L = (y ++ [40]) ++ (b ++ 41 :: r) := by rw [hL]; simp
    have hyl : (y ++ [40]).length = y.length + 1 := by simp
    have T0 : tok L y.length = ⟨4, y.length, y.length + 1, sOpen, 0, false⟩ := by
      rw [at_first hL (solid_of _ (by decide)), tokL_paren 40 (Or.inl rfl)]
      rfl
    refine ⟨T0, ?_⟩
    have hs : RdOk L .expr (tok L (y.length + 1)) (a.sh (y.length + 1)) ((shutTB b.length).sh (y.length + 1)) := by
      refine ⟨n, fun k => rd_more L n _ _ _ ?_ k⟩
      have h1 : rd ((y ++ [40]) ++ (b ++ 41 :: r)) n .expr ((tok (b ++ 41 :: r) 0).sh (y ++ [40]).length) = _ := rd_sh (y ++ [40]) (b ++ 41 :: r) n .expr (tok (b ++ 41 :: r) 0)
      have h2 : tok ((y ++ [40]) ++ (b ++ 41 :: r)) ((y ++ [40]).length + 0) = (tok (b ++ 41 :: r) 0).sh (y ++ [40]).length := tok_sh (y ++ [40]) (b ++ 41 :: r) 0
      rw [← hL2, Nat.add_zero] at h2
      rw [← hL2, ← h2, hr, hyl] at h1
      exact h1
    rw [T0]
    have := RdOk.parOf (t := ⟨4, y.length, y.length + 1, sOpen, 0, false⟩) rfl rfl hs rfl
    rw [show y.length + (b.length + 2) = y.length + 1 + (b.length + 1) by omega]
    exact this
end Go.Proofs.YthpmkpnndbjflaaGreatDoor
/- Plain facts: the texts of ArithHalf are expressions; what they are worth. No program. -/
namespace Go.Proofs.YthpmkpnndbjflaaGreatDoor
open Go.RowKit

theorem tok_sp {L y r : List Int} (hL : L = y ++ 32 :: r) : tok L y.length = tok L (y.length + 1) := by
  have e : skipN L y.length = skipN L (y.length + 1) := by
    unfold skipN
    rw [hL, List.drop_left, show (y ++ 32 :: r).drop (y.length + 1) = r by rw [drop_sh]; rfl]
    have : pre whiteB (32 :: r) = pre whiteB r + 1 := by simp [pre, whiteB]
    omega
  unfold tok
  rw [e]
theorem oe {x : Int} {m : List Int} (h : 0 ≤ x ∧ x ≤ 255 ∧ x ≠ 61 ∧ x ≠ 60 ∧ x ≠ 62 ∧ x ≠ 38 ∧ x ≠ 124) : OpEnds (x :: m) := fun y k e => by
  simp only [List.cons.injEq] at e
  rw [← e.1]
  exact h

theorem parse_of {L : List Int} {e : Tr} {t : Tk} (h : RdOk L .expr (tok L 0) e t) (hk : t.kind = 0) (hl : L.length ≤ 1024) : ∃ n, parseP L n = some (.ok e t) := by
  obtain ⟨n, hn⟩ := h
  refine ⟨n, ?_⟩
  unfold parseP readP
  rw [if_neg (by omega), show rd L n .expr (tok L 0) = _ from hn 0]
  simp only []
  rw [if_pos hk]
end Go.Proofs.YthpmkpnndbjflaaGreatDoor
