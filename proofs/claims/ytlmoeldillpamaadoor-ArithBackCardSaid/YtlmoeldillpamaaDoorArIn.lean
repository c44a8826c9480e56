/- Plain facts: an expression in parentheses, with white about it, is the expression, further behind. No program. -/
import Derived.Test.YtlmoeldillpamaaDoorArCut
namespace Go.Proofs.YtlmoeldillpamaaDoor
open Go.RowKit

/-! further behind -/
def Tk.sh (k : Nat) (t : Tk) : Tk := ⟨t.kind, k + t.start, k + t.stop, t.text, t.num, t.over⟩
def Tr.sh (k : Nat) : Tr → Tr
  | .num n p => .num n (k + p)
  | .name s p => .name s (k + p)
  | .un op p a => .un op (k + p) (a.sh k)
  | .bin op p a b => .bin op (k + p) (a.sh k) (b.sh k)
  | .cond op p a b c => .cond op (k + p) (a.sh k) (b.sh k) (c.sh k)
  | .asg op s p q a => .asg op s (k + p) (k + q) (a.sh k)
def Rs.sh (k : Nat) : Rs → Rs
  | .ok t n => .ok (t.sh k) (n.sh k)
  | .bad c p => .bad c (k + p)
def Md.sh (k : Nat) : Md → Md
  | .loop n left => .loop n (left.sh k)
  | .expr => .expr
  | .cond => .cond
  | .bin n => .bin n
  | .opd => .opd

theorem tokL_sh (r : List Int) (k q : Nat) : tokL r (k + q) = (tokL r q).sh k := by
  unfold tokL
  repeat' split
  all_goals simp only [Tk.sh, Nat.add_assoc]
theorem drop_sh (y l : List Int) (q : Nat) : (y ++ l).drop (y.length + q) = l.drop q := by
  rw [List.drop_append, List.drop_of_length_le (by omega), Nat.add_sub_cancel_left]
  rfl
theorem tok_sh (y l : List Int) (q : Nat) : tok (y ++ l) (y.length + q) = (tok l q).sh y.length := by
  have e : skipN (y ++ l) (y.length + q) = y.length + skipN l q := by unfold skipN; rw [drop_sh, Nat.add_assoc]
  unfold tok
  rw [e, drop_sh, tokL_sh]
theorem goesB_sh (y l : List Int) (q : Nat) : goesB (y ++ l) (y.length + q) = goesB l q := by
  unfold goesB
  have e1 : decide (y.length + q < (y ++ l).length) = decide (q < l.length) := by
    rw [List.length_append]
    exact decide_eq_decide.2 ⟨fun h => by omega, fun h => by omega⟩
  have e2 : (y ++ l).getD (y.length + q) 0 = l.getD q 0 := by
    simp only [List.getD]
    rw [List.getElem?_append_right (by omega), Nat.add_sub_cancel_left]
  rw [e1, e2, drop_sh]

theorem rd_sh (y l : List Int) : ∀ (n : Nat) (md : Md) (t : Tk), rd (y ++ l) n (md.sh y.length) (t.sh y.length) = (rd l n md t).map (Rs.sh y.length)
  | 0, md, t => by cases md <;> rfl
  | n + 1, .expr, t => by
    show rd (y ++ l) (n + 1) .expr (t.sh y.length) = _
    have e1 : tok (y ++ l) (t.sh y.length).stop = (tok l t.stop).sh y.length := tok_sh y l t.stop
    have e2 : tok (y ++ l) ((tok l t.stop).sh y.length).stop = (tok l (tok l t.stop).stop).sh y.length := tok_sh y l _
    have ih : rd (y ++ l) n .expr ((tok l (tok l t.stop).stop).sh y.length) = _ := rd_sh y l n .expr (tok l (tok l t.stop).stop)
    simp only [rd]
    rw [e1, e2, ih]
    by_cases c : t.kind = 3 ∧ asgB (tok l t.stop).text = true
    · rw [if_pos (show (t.sh y.length).kind = 3 ∧ asgB ((tok l t.stop).sh y.length).text = true from c), if_pos c]
      generalize rd l n .expr (tok l (tok l t.stop).stop) = x
      match x with
      | none => rfl
      | some (.bad _ _) => rfl
      | some (.ok _ _) => rfl
    · rw [if_neg (show ¬ ((t.sh y.length).kind = 3 ∧ asgB ((tok l t.stop).sh y.length).text = true) from c), if_neg c]
      exact rd_sh y l n .cond t
  | n + 1, .cond, t => by
    show rd (y ++ l) (n + 1) .cond (t.sh y.length) = _
    have ih : rd (y ++ l) n (.bin 1) (t.sh y.length) = _ := rd_sh y l n (.bin 1) t
    simp only [rd]
    rw [ih]
    generalize rd l n (.bin 1) t = x
    match x with
    | none => rfl
    | some (.bad _ _) => rfl
    | some (.ok a t1) =>
      have e1 : tok (y ++ l) (t1.sh y.length).stop = (tok l t1.stop).sh y.length := tok_sh y l t1.stop
      have ih1 : rd (y ++ l) n .expr ((tok l t1.stop).sh y.length) = _ := rd_sh y l n .expr (tok l t1.stop)
      show (if (t1.sh y.length).text = sQue then _ else _) = Option.map (Rs.sh y.length) (if t1.text = sQue then _ else _)
      by_cases c : t1.text = sQue
      · rw [if_pos (show (t1.sh y.length).text = sQue from c), if_pos c, e1, ih1]
        generalize rd l n .expr (tok l t1.stop) = z
        match z with
        | none => rfl
        | some (.bad _ _) => rfl
        | some (.ok b t2) =>
          have e2 : tok (y ++ l) (t2.sh y.length).stop = (tok l t2.stop).sh y.length := tok_sh y l t2.stop
          have ih2 : rd (y ++ l) n .cond ((tok l t2.stop).sh y.length) = _ := rd_sh y l n .cond (tok l t2.stop)
          show (if (t2.sh y.length).text = sCol then _ else _) = Option.map (Rs.sh y.length) (if t2.text = sCol then _ else _)
          by_cases d : t2.text = sCol
          · rw [if_pos (show (t2.sh y.length).text = sCol from d), if_pos d, e2, ih2]
            generalize rd l n .cond (tok l t2.stop) = u
            match u with
            | none => rfl
            | some (.bad _ _) => rfl
            | some (.ok _ _) => rfl
          · rw [if_neg (show ¬ (t2.sh y.length).text = sCol from d), if_neg d]
            rfl
      · rw [if_neg (show ¬ (t1.sh y.length).text = sQue from c), if_neg c]
        rfl
  | n + 1, .bin k, t => by
    show rd (y ++ l) (n + 1) (.bin k) (t.sh y.length) = _
    have ih : rd (y ++ l) n .opd (t.sh y.length) = _ := rd_sh y l n .opd t
    simp only [rd]
    rw [ih]
    generalize rd l n .opd t = x
    match x with
    | none => rfl
    | some (.bad _ _) => rfl
    | some (.ok a t1) => exact rd_sh y l n (.loop k a) t1
  | n + 1, .loop k left, t => by
    show rd (y ++ l) (n + 1) (.loop k (left.sh y.length)) (t.sh y.length) = _
    have e1 : tok (y ++ l) (t.sh y.length).stop = (tok l t.stop).sh y.length := tok_sh y l t.stop
    have ih : rd (y ++ l) n (.bin (strN t.text + 1)) ((tok l t.stop).sh y.length) = _ := rd_sh y l n (.bin (strN t.text + 1)) (tok l t.stop)
    simp only [rd]
    rw [e1, show strN (t.sh y.length).text = strN t.text from rfl, ih]
    by_cases c : k ≤ strN t.text
    · rw [if_pos c, if_pos c]
      generalize rd l n (.bin (strN t.text + 1)) (tok l t.stop) = x
      match x with
      | none => rfl
      | some (.bad _ _) => rfl
      | some (.ok b t2) => exact rd_sh y l n (.loop k (.bin t.text t.start left b)) t2
    · rw [if_neg c, if_neg c]
      rfl
  | n + 1, .opd, t => by
    show rd (y ++ l) (n + 1) .opd (t.sh y.length) = _
    have e1 : tok (y ++ l) (t.sh y.length).stop = (tok l t.stop).sh y.length := tok_sh y l t.stop
    have eg : goesB (y ++ l) (t.sh y.length).stop = goesB l t.stop := goesB_sh y l t.stop
    have iho : rd (y ++ l) n .opd ((tok l t.stop).sh y.length) = _ := rd_sh y l n .opd (tok l t.stop)
    have ihe : rd (y ++ l) n .expr ((tok l t.stop).sh y.length) = _ := rd_sh y l n .expr (tok l t.stop)
    simp only [rd]
    rw [e1, eg, iho, ihe]
    show (if t.kind = 2 then _ else if t.kind = 3 then _ else if ¬ unB t.text = sEmpty then _ else if t.text = sOpen then _ else _) = _
    by_cases c2 : t.kind = 2
    · rw [if_pos c2, if_pos c2]
      show (if t.over = true then _ else _) = _
      by_cases co : t.over = true
      · rw [if_pos co, if_pos co]; rfl
      · rw [if_neg co, if_neg co]
        by_cases cg : goesB l t.stop = true
        · rw [if_pos cg, if_pos cg]; rfl
        · rw [if_neg cg, if_neg cg]; rfl
    rw [if_neg c2, if_neg c2]
    by_cases c3 : t.kind = 3
    · rw [if_pos c3, if_pos c3]; rfl
    rw [if_neg c3, if_neg c3]
    by_cases cu : ¬ unB t.text = sEmpty
    · rw [if_pos cu, if_pos cu]
      generalize rd l n .opd (tok l t.stop) = x
      match x with
      | none => rfl
      | some (.bad _ _) => rfl
      | some (.ok b t2) => rfl
    rw [if_neg cu, if_neg cu]
    by_cases cp : t.text = sOpen
    · rw [if_pos cp, if_pos cp]
      generalize rd l n .expr (tok l t.stop) = x
      match x with
      | none => rfl
      | some (.bad _ _) => rfl
      | some (.ok b t2) =>
        have e2 : tok (y ++ l) (t2.sh y.length).stop = (tok l t2.stop).sh y.length := tok_sh y l t2.stop
        show (if (t2.sh y.length).text = sShut then _ else _) = Option.map (Rs.sh y.length) (if t2.text = sShut then _ else _)
        by_cases d : t2.text = sShut
        · rw [if_pos (show (t2.sh y.length).text = sShut from d), if_pos d, e2]; rfl
        · rw [if_neg (show ¬ (t2.sh y.length).text = sShut from d), if_neg d]; rfl
    · rw [if_neg cp, if_neg cp]; rfl

/-! a parenthesis that shuts, where the text ended -/
theorem pre_all (p : Int → Bool) (y : List Int) : ∀ r : List Int, pre p r = r.length → pre p (r ++ y) = r.length + pre p y
  | [], _ => by simp
  | c :: r, h => by
    unfold pre at h ⊢
    by_cases hc : p c = true
    · rw [List.takeWhile_cons_of_pos hc, List.length_cons, List.length_cons] at h
      have := pre_all p y r (by unfold pre; omega)
      unfold pre at this
      rw [List.cons_append, List.takeWhile_cons_of_pos hc, List.length_cons, List.length_cons, this]
      omega
    · rw [List.takeWhile_cons_of_neg hc] at h
      simp at h
theorem begins_head {c : Int} {m : List Int} {s : ByteArray} (h : begins (c :: m) s = true) (hs : 0 < s.size) : s.data.toList.head? = some (UInt8.ofNat c.toNat) := by
  unfold begins at h
  simp only [Bool.and_eq_true, decide_eq_true_eq] at h
  have hd : s.data.toList = ((c :: m).take s.size).map fun n => UInt8.ofNat n.toNat := (congrArg (fun t : ByteArray => t.data.toList) h.2).symm
  obtain ⟨j, hj⟩ : ∃ j, s.size = j + 1 := ⟨s.size - 1, by omega⟩
  rw [hd, hj]
  rfl
theorem opFrom_skip (l : List Int) : ∀ L1 L2 : List ByteArray, (∀ s ∈ L1, begins l s = false) → opFrom l (L1 ++ L2) = opFrom l L2
  | [], _, _ => rfl
  | s :: L1, L2, h => by
    rw [List.cons_append]
    show (if begins l s = true then s else opFrom l (L1 ++ L2)) = _
    rw [if_neg (by rw [h s (by simp)]; decide)]
    exact opFrom_skip l L1 L2 fun t ht => h t (by simp [ht])
theorem opB_paren (c : Int) (hc : c = 40 ∨ c = 41) (m : List Int) : opB (c :: m) = ofBys [c] := by
  have hh : ∀ s ∈ opList.take 18, 0 < s.size ∧ s.data.toList.head? ≠ some 40 ∧ s.data.toList.head? ≠ some 41 := by decide
  have e : opList = opList.take 18 ++ opList.drop 18 := (List.take_append_drop 18 opList).symm
  unfold opB
  rw [e, opFrom_skip]
  · have e2 : opList.drop 18 = sOpen :: sShut :: opList.drop 20 := rfl
    rw [e2]
    have hb1 : begins (40 :: m) sOpen = true := by simp [begins, sOpen, ofBys, ByteArray.size]
    have hb2 : begins (41 :: m) sShut = true := by simp [begins, sShut, ofBys, ByteArray.size]
    have hb3 : ¬ begins (41 :: m) sOpen = true := fun h => by
      have := begins_head h (by decide)
      exact absurd this (by decide)
    rcases hc with rfl | rfl
    · unfold opFrom; rw [if_pos hb1]; rfl
    · unfold opFrom; rw [if_neg hb3]; unfold opFrom; rw [if_pos hb2]; rfl
  · intro s hs
    obtain ⟨h1, h2, h3⟩ := hh s hs
    rcases hc with rfl | rfl
    · cases hb : begins (40 :: m) s with
      | false => rfl
      | true => exact absurd (begins_head hb h1) h2
    · cases hb : begins (41 :: m) s with
      | false => rfl
      | true => exact absurd (begins_head hb h1) h3
theorem tokL_paren (c : Int) (hc : c = 40 ∨ c = 41) (m : List Int) (q : Nat) : tokL (c :: m) q = ⟨4, q, q + 1, ofBys [c], 0, false⟩ := by
  have h1 : nmN (c :: m) = 0 := (stopN_is _ _).same ⟨Nat.zero_le _, fun j hj => absurd hj (by omega), fun _ => by rcases hc with rfl | rfl <;> simp [nameB, letB, numB]⟩
  have h2 : cN (c :: m) = 0 := by rcases hc with rfl | rfl <;> simp [cN, hexB, cB, gN, rN, pre, dig?, dgt]
  have h3 := opB_paren c hc m
  rw [tk_op (by simp) (by omega) (by omega) (by rw [h3]; rcases hc with rfl | rfl <;> decide), h3]
  congr 1

/-- The parenthesis that shuts behind a text of n bytes. -/
def shutT (n : Nat) : Tk := ⟨4, n + 1, n + 2, sShut, 0, false⟩
def Like (n : Nat) (t t' : Tk) : Prop := (t' = t ∧ ¬ t.kind = 0) ∨ (t.kind = 0 ∧ t.text = sEmpty ∧ t' = shutT n)

theorem tokL_kind {r : List Int} {q : Nat} (h : 0 < r.length) : ¬ (tokL r q).kind = 0 := by
  by_cases h1 : 0 < nmN r
  · rw [tk_nm h h1]; show ¬ (3 : Int) = 0; decide
  by_cases h2 : 0 < cN r
  · rw [tk_cn h h1 h2]; show ¬ (2 : Int) = 0; decide
  by_cases h3 : opB r = sEmpty
  · rw [tk_no h h1 h2 h3]; show ¬ (1 : Int) = 0; decide
  · rw [tk_op h h1 h2 h3]; show ¬ (4 : Int) = 0; decide
theorem tok_like (l m : List Int) (q : Nat) (h : q ≤ l.length) : Like l.length (tok l q) (tok (l ++ 9 :: 41 :: m) q) := by
  have hsk := skipN_le l q h
  by_cases hs : skipN l q < l.length
  · left
    refine ⟨tok_app l (41 :: m) 9 (Or.inr rfl) q h (by unfold tok; rw [tokL_start]; exact hs), ?_⟩
    exact tokL_kind (by rw [List.length_drop]; omega)
  · right
    have e : skipN l q = l.length := by omega
    have e0 : tok l q = ⟨0, l.length, l.length, sEmpty, 0, false⟩ := by
      unfold tok
      rw [e, List.drop_length]
      rfl
    have e1 : pre whiteB (l.drop q) = (l.drop q).length := by
      unfold skipN at e
      rw [List.length_drop]
      omega
    have e2 : skipN (l ++ 9 :: 41 :: m) q = l.length + 1 := by
      unfold skipN
      rw [drop_app h, pre_all _ _ _ e1, List.length_drop]
      have : pre whiteB (9 :: 41 :: m) = 1 := by simp [pre, whiteB]
      omega
    refine ⟨by rw [e0], by rw [e0], ?_⟩
    unfold tok
    rw [e2, show (l ++ 9 :: 41 :: m).drop (l.length + 1) = 41 :: m by rw [drop_sh]; rfl, tokL_paren 41 (Or.inr rfl)]
    rfl

theorem unB_emp : unB sEmpty = sEmpty := by decide
/-- No expression begins where the text ends. -/
theorem rd_none (l : List Int) (t : Tk) (hk : t.kind = 0) (hx : t.text = sEmpty) (n : Nat) :
    (∀ e t1, ¬ rd l n .opd t = some (.ok e t1)) ∧ (∀ k e t1, ¬ rd l n (.bin k) t = some (.ok e t1)) ∧ (∀ e t1, ¬ rd l n .cond t = some (.ok e t1)) ∧ (∀ e t1, ¬ rd l n .expr t = some (.ok e t1)) := by
  have ho : ∀ n e t1, ¬ rd l n .opd t = some (.ok e t1) := by
    intro n e t1 h
    cases n with
    | zero => simp [rd] at h
    | succ n =>
      simp only [rd] at h
      rw [if_neg (by omega), if_neg (by omega), if_neg (by rw [hx, unB_emp]; simp), if_neg (by rw [hx]; decide)] at h
      simp [refuse] at h
  have hb : ∀ n k e t1, ¬ rd l n (.bin k) t = some (.ok e t1) := by
    intro n k e t1 h
    cases n with
    | zero => simp [rd] at h
    | succ n =>
      simp only [rd] at h
      generalize hy : rd l n .opd t = y at h
      match y, hy, h with
      | none, _, h => simp at h
      | some (.bad _ _), _, h => simp at h
      | some (.ok _ _), hy, _ => exact ho _ _ _ hy
  have hc : ∀ n e t1, ¬ rd l n .cond t = some (.ok e t1) := by
    intro n e t1 h
    cases n with
    | zero => simp [rd] at h
    | succ n =>
      simp only [rd] at h
      generalize hy : rd l n (.bin 1) t = y at h
      match y, hy, h with
      | none, _, h => simp at h
      | some (.bad _ _), _, h => simp at h
      | some (.ok _ _), hy, _ => exact hb _ _ _ _ hy
  refine ⟨ho n, hb n, hc n, ?_⟩
  intro e t1 h
  cases n with
  | zero => simp [rd] at h
  | succ n =>
    simp only [rd] at h
    rw [if_neg (by omega)] at h
    exact hc _ _ _ h

theorem Like.asg {n : Nat} {t t' : Tk} (h : Like n t t') : asgB t'.text = asgB t.text := by
  rcases h with ⟨rfl, _⟩ | ⟨_, h2, rfl⟩
  · rfl
  · rw [h2]; show asgB sShut = asgB sEmpty; decide
theorem Like.str {n : Nat} {t t' : Tk} (h : Like n t t') : strN t'.text = strN t.text := by
  rcases h with ⟨rfl, _⟩ | ⟨_, h2, rfl⟩
  · rfl
  · rw [h2]; show strN sShut = strN sEmpty; decide
theorem Like.same {n : Nat} {t t' : Tk} (h : Like n t t') (hx : ¬ t.text = sEmpty) : t' = t := by
  rcases h with ⟨rfl, _⟩ | ⟨_, h2, _⟩
  · rfl
  · exact absurd h2 hx
theorem Like.not {n : Nat} {t t' : Tk} (h : Like n t t') {s : ByteArray} (hs : s ≠ sShut) (hx : ¬ t.text = s) : ¬ t'.text = s := by
  rcases h with ⟨rfl, _⟩ | ⟨_, _, rfl⟩
  · exact hx
  · exact fun h => hs h.symm

/-- Reading that told an expression tells it where a parenthesis shuts behind. -/
theorem rd_like (l m : List Int) : ∀ (n : Nat) (md : Md) (t t' : Tk), Like l.length t t' → md.Ok → t.Lies l → ∀ e t1, rd l n md t = some (.ok e t1) → ∃ t1', rd (l ++ 9 :: 41 :: m) n md t' = some (.ok e t1') ∧ Like l.length t1 t1'
  | 0, md, t, t', _, _, _, e, t1, h => by cases md <;> simp [rd] at h
  | n + 1, .expr, t, t', ht, _, hl, e, t1, h => by
    rcases ht with ⟨rfl, hk⟩ | ⟨hk, hx, rfl⟩
    rotate_left
    · exact absurd h ((rd_none l t hk hx (n + 1)).2.2.2 e t1)
    have hu := tok_like l m _ hl.2
    have lu := tok_lies l _ hl.2
    simp only [rd] at h ⊢
    rw [hu.asg]
    by_cases c : t'.kind = 3 ∧ asgB (tok l t'.stop).text = true
    · rw [if_pos c] at h ⊢
      have hs := hu.same (asgB_txt c.2)
      rw [hs]
      have h2 := tok_like l m _ lu.2
      generalize hx : rd l n .expr (tok l (tok l t'.stop).stop) = y at h
      match y, hx, h with
      | none, _, h => simp at h
      | some (.bad _ _), _, h => simp at h
      | some (.ok a t2), hx, h =>
        obtain ⟨t2', hr, hlk⟩ := rd_like l m n .expr _ _ h2 trivial (tok_lies l _ lu.2) _ _ hx
        simp only [Option.some.injEq, Rs.ok.injEq] at h
        obtain ⟨rfl, rfl⟩ := h
        rw [hr]
        exact ⟨t2', rfl, hlk⟩
    · rw [if_neg c] at h ⊢
      exact rd_like l m n .cond t' t' (Or.inl ⟨rfl, hk⟩) trivial hl e t1 h
  | n + 1, .cond, t, t', ht, _, hl, e, t1, h => by
    rcases ht with ⟨rfl, hk⟩ | ⟨hk, hx, rfl⟩
    rotate_left
    · exact absurd h ((rd_none l t hk hx (n + 1)).2.2.1 e t1)
    simp only [rd] at h ⊢
    generalize hx : rd l n (.bin 1) t' = y at h
    match y, hx, h with
    | none, _, h => simp at h
    | some (.bad _ _), _, h => simp at h
    | some (.ok a u), hx, h =>
      have lu : u.Lies l := rd_lies l n (.bin 1) t' hl _ hx
      obtain ⟨u', hr, hu⟩ := rd_like l m n (.bin 1) t' t' (Or.inl ⟨rfl, hk⟩) (Nat.le_refl 1) hl _ _ hx
      rw [hr]
      simp only [] at h ⊢
      by_cases c : u.text = sQue
      · have hs := hu.same (by rw [c]; decide)
        subst hs
        rw [if_pos c] at h ⊢
        have h2 := tok_like l m _ lu.2
        generalize hy : rd l n .expr (tok l u'.stop) = z at h
        match z, hy, h with
        | none, _, h => simp at h
        | some (.bad _ _), _, h => simp at h
        | some (.ok b v), hy, h =>
          have lv : v.Lies l := rd_lies l n .expr _ (tok_lies l _ lu.2) _ hy
          obtain ⟨v', hr2, hv⟩ := rd_like l m n .expr _ _ h2 trivial (tok_lies l _ lu.2) _ _ hy
          rw [hr2]
          simp only [] at h ⊢
          by_cases d : v.text = sCol
          · have hs := hv.same (by rw [d]; decide)
            subst hs
            rw [if_pos d] at h ⊢
            have h3 := tok_like l m _ lv.2
            generalize hz : rd l n .cond (tok l v'.stop) = o at h
            match o, hz, h with
            | none, _, h => simp at h
            | some (.bad _ _), _, h => simp at h
            | some (.ok f q), hz, h =>
              obtain ⟨q', hr3, hq⟩ := rd_like l m n .cond _ _ h3 trivial (tok_lies l _ lv.2) _ _ hz
              rw [hr3]
              simp only [Option.some.injEq, Rs.ok.injEq] at h
              obtain ⟨rfl, rfl⟩ := h
              exact ⟨q', rfl, hq⟩
          · rw [if_neg d] at h
            simp [refuse] at h
      · rw [if_neg c] at h
        rw [if_neg (hu.not (by decide) c)]
        simp only [Option.some.injEq, Rs.ok.injEq] at h
        obtain ⟨rfl, rfl⟩ := h
        exact ⟨u', rfl, hu⟩
  | n + 1, .bin k, t, t', ht, ho, hl, e, t1, h => by
    rcases ht with ⟨rfl, hk⟩ | ⟨hk, hx, rfl⟩
    rotate_left
    · exact absurd h ((rd_none l t hk hx (n + 1)).2.1 k e t1)
    simp only [rd] at h ⊢
    generalize hx : rd l n .opd t' = y at h
    match y, hx, h with
    | none, _, h => simp at h
    | some (.bad _ _), _, h => simp at h
    | some (.ok a u), hx, h =>
      have lu : u.Lies l := rd_lies l n .opd t' hl _ hx
      obtain ⟨u', hr, hu⟩ := rd_like l m n .opd t' t' (Or.inl ⟨rfl, hk⟩) trivial hl _ _ hx
      rw [hr]
      exact rd_like l m n (.loop k a) u u' hu ho lu e t1 h
  | n + 1, .loop k left, t, t', ht, ho, hl, e, t1, h => by
    simp only [rd] at h ⊢
    rw [ht.str]
    by_cases c : k ≤ strN t.text
    · have hs := ht.same (strN_txt ho c)
      subst hs
      rw [if_pos c] at h ⊢
      have h2 := tok_like l m _ hl.2
      generalize hx : rd l n (.bin (strN t'.text + 1)) (tok l t'.stop) = y at h
      match y, hx, h with
      | none, _, h => simp at h
      | some (.bad _ _), _, h => simp at h
      | some (.ok b u), hx, h =>
        have lu : u.Lies l := rd_lies l n _ _ (tok_lies l _ hl.2) _ hx
        obtain ⟨u', hr, hu⟩ := rd_like l m n _ _ _ h2 (Nat.le_add_left 1 _) (tok_lies l _ hl.2) _ _ hx
        rw [hr]
        exact rd_like l m n (.loop k (.bin t'.text t'.start left b)) u u' hu ho lu e t1 h
    · rw [if_neg c] at h ⊢
      simp only [Option.some.injEq, Rs.ok.injEq] at h
      obtain ⟨rfl, rfl⟩ := h
      exact ⟨t', rfl, ht⟩
  | n + 1, .opd, t, t', ht, _, hl, e, t1, h => by
    rcases ht with ⟨rfl, hk⟩ | ⟨hk, hx, rfl⟩
    rotate_left
    · exact absurd h ((rd_none l t hk hx (n + 1)).1 e t1)
    have hu := tok_like l m _ hl.2
    have lu := tok_lies l _ hl.2
    simp only [rd] at h ⊢
    rw [goesB_app l (41 :: m) 9 (Or.inr rfl) _ hl.2]
    by_cases c2 : t'.kind = 2
    · rw [if_pos c2] at h ⊢
      by_cases co : t'.over = true
      · rw [if_pos co] at h; simp [refuse] at h
      · rw [if_neg co] at h ⊢
        by_cases cg : goesB l t'.stop = true
        · rw [if_pos cg] at h; simp at h
        · rw [if_neg cg] at h ⊢
          simp only [Option.some.injEq, Rs.ok.injEq] at h
          obtain ⟨rfl, rfl⟩ := h
          exact ⟨_, rfl, hu⟩
    rw [if_neg c2] at h ⊢
    by_cases c3 : t'.kind = 3
    · rw [if_pos c3] at h ⊢
      simp only [Option.some.injEq, Rs.ok.injEq] at h
      obtain ⟨rfl, rfl⟩ := h
      exact ⟨_, rfl, hu⟩
    rw [if_neg c3] at h ⊢
    by_cases cu : ¬ unB t'.text = sEmpty
    · rw [if_pos cu] at h ⊢
      generalize hx : rd l n .opd (tok l t'.stop) = y at h
      match y, hx, h with
      | none, _, h => simp at h
      | some (.bad _ _), _, h => simp at h
      | some (.ok a u), hx, h =>
        obtain ⟨u', hr, hlk⟩ := rd_like l m n .opd _ _ hu trivial lu _ _ hx
        simp only [Option.some.injEq, Rs.ok.injEq] at h
        obtain ⟨rfl, rfl⟩ := h
        rw [hr]
        exact ⟨u', rfl, hlk⟩
    rw [if_neg cu] at h ⊢
    by_cases cp : t'.text = sOpen
    · rw [if_pos cp] at h ⊢
      generalize hx : rd l n .expr (tok l t'.stop) = y at h
      match y, hx, h with
      | none, _, h => simp at h
      | some (.bad _ _), _, h => simp at h
      | some (.ok a u), hx, h =>
        have lv : u.Lies l := rd_lies l n .expr _ lu _ hx
        obtain ⟨u', hr, hv⟩ := rd_like l m n .expr _ _ hu trivial lu _ _ hx
        rw [hr]
        simp only [] at h ⊢
        by_cases cs : u.text = sShut
        · have hs := hv.same (by rw [cs]; decide)
          subst hs
          rw [if_pos cs] at h ⊢
          simp only [Option.some.injEq, Rs.ok.injEq] at h
          obtain ⟨rfl, rfl⟩ := h
          exact ⟨_, rfl, tok_like l m _ lv.2⟩
        · rw [if_neg cs] at h
          simp [refuse] at h
    · rw [if_neg cp] at h
      simp [refuse] at h

/-- White and a parenthesis on both sides. -/
def wrapL (l : List Int) : List Int := [32, 40, 10] ++ (l ++ [9, 41, 32])
def wrapN : Nat → List Int → List Int
  | 0, l => l
  | n + 1, l => wrapL (wrapN n l)
theorem wrapN_len (l : List Int) : ∀ n, (wrapN n l).length = l.length + 6 * n
  | 0 => rfl
  | n + 1 => by
    have := wrapN_len l n
    show (wrapL (wrapN n l)).length = _
    unfold wrapL
    simp
    omega

theorem readP_in {l : List Int} {n : Nat} {e : Tr} {t : Tk} (h : readP l n = some (.ok e t)) : ∃ t', readP (wrapL l) (n + 4) = some (.ok (e.sh 3) t') := by
  unfold readP at h
  generalize hx : rd l n .expr (tok l 0) = x at h
  match x, hx, h with
  | none, _, h => simp at h
  | some (.bad _ _), _, h => simp at h
  | some (.ok a t1), hx, h =>
    simp only [] at h
    by_cases ck : t1.kind = 0
    rotate_left
    · rw [if_neg ck] at h; simp [refuse] at h
    rw [if_pos ck] at h
    simp only [Option.some.injEq, Rs.ok.injEq] at h
    obtain ⟨rfl, rfl⟩ := h
    obtain ⟨t', hr, hlk⟩ := rd_like l [32] n .expr _ _ (tok_like l [32] 0 (Nat.zero_le _)) trivial (tok_lies l 0 (Nat.zero_le _)) _ _ hx
    have ht' : t' = shutT l.length := by
      rcases hlk with ⟨_, h2⟩ | ⟨_, _, h3⟩
      · exact absurd ck h2
      · exact h3
    subst ht'
    have hs : rd (wrapL l) n .expr (tok (wrapL l) 3) = some (.ok (a.sh 3) ((shutT l.length).sh 3)) := by
      have h1 : rd (wrapL l) n .expr ((tok (l ++ [9, 41, 32]) 0).sh 3) = _ := rd_sh [32, 40, 10] (l ++ [9, 41, 32]) n .expr (tok (l ++ [9, 41, 32]) 0)
      have h2 : tok (wrapL l) (3 + 0) = (tok (l ++ [9, 41, 32]) 0).sh 3 := tok_sh [32, 40, 10] (l ++ [9, 41, 32]) 0
      rw [show (3 : Nat) = 3 + 0 from rfl, h2, h1, hr]
      rfl
    have k0 : tok (wrapL l) 0 = ⟨4, 1, 2, sOpen, 0, false⟩ := by
      have e1 : skipN (wrapL l) 0 = 1 := by unfold skipN wrapL; simp [pre, whiteB]
      unfold tok
      rw [e1, show (wrapL l).drop 1 = 40 :: 10 :: (l ++ [9, 41, 32]) from rfl, tokL_paren 40 (Or.inl rfl)]
      rfl
    have k2 : tok (wrapL l) 2 = tok (wrapL l) 3 := by
      have e1 : skipN (wrapL l) 2 = skipN (wrapL l) 3 := by
        unfold skipN
        rw [show (wrapL l).drop 2 = 10 :: (wrapL l).drop 3 from rfl]
        have : pre whiteB (10 :: (wrapL l).drop 3) = pre whiteB ((wrapL l).drop 3) + 1 := by simp [pre, whiteB]
        omega
      unfold tok
      rw [e1]
    have ke : (tok (wrapL l) ((shutT l.length).sh 3).stop).kind = 0 ∧ (tok (wrapL l) ((shutT l.length).sh 3).stop).text = sEmpty := by
      have h1 : tok (wrapL l) (3 + (l.length + 2)) = (tok (l ++ [9, 41, 32]) (l.length + 2)).sh 3 := tok_sh [32, 40, 10] (l ++ [9, 41, 32]) (l.length + 2)
      have h2 : tok (l ++ [9, 41, 32]) (l.length + 2) = (tok [9, 41, 32] 2).sh l.length := tok_sh l [9, 41, 32] 2
      have h3 : tok [9, 41, 32] 2 = ⟨0, 3, 3, sEmpty, 0, false⟩ := by rfl
      show (tok (wrapL l) (3 + (l.length + 2))).kind = 0 ∧ (tok (wrapL l) (3 + (l.length + 2))).text = sEmpty
      rw [h1, h2, h3]
      exact ⟨rfl, rfl⟩
    have ho : rd (wrapL l) (n + 1) .opd (tok (wrapL l) 0) = some (.ok (a.sh 3) (tok (wrapL l) ((shutT l.length).sh 3).stop)) := by
      simp only [rd]
      rw [k0]
      rw [if_neg (show ¬ (4 : Int) = 2 by decide), if_neg (show ¬ (4 : Int) = 3 by decide), if_neg (show ¬ ¬ unB sOpen = sEmpty by decide), if_pos (show (sOpen : ByteArray) = sOpen from rfl)]
      show (match rd (wrapL l) n .expr (tok (wrapL l) 2) with | some (.ok e t1) => _ | r => r) = _
      rw [k2, hs]
      simp only []
      rw [if_pos (show ((shutT l.length).sh 3).text = sShut from rfl)]
    have hb : rd (wrapL l) (n + 2) (.bin 1) (tok (wrapL l) 0) = some (.ok (a.sh 3) (tok (wrapL l) ((shutT l.length).sh 3).stop)) := by
      simp only [rd] at ho ⊢
      rw [ho]
      simp only []
      rw [if_neg (by rw [ke.2]; decide)]
    have hc : rd (wrapL l) (n + 3) .cond (tok (wrapL l) 0) = some (.ok (a.sh 3) (tok (wrapL l) ((shutT l.length).sh 3).stop)) := by
      rw [rd, hb]
      simp only []
      rw [if_neg (by rw [ke.2]; decide)]
    have he : rd (wrapL l) (n + 4) .expr (tok (wrapL l) 0) = some (.ok (a.sh 3) (tok (wrapL l) ((shutT l.length).sh 3).stop)) := by
      rw [rd, if_neg (by rw [k0]; exact fun h => absurd h.1 (by decide)), hc]
    refine ⟨tok (wrapL l) ((shutT l.length).sh 3).stop, ?_⟩
    · unfold readP
      rw [he]
      simp only []
      rw [if_pos ke.1]

end Go.Proofs.YtlmoeldillpamaaDoor
