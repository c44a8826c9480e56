/- Plain facts: a tree written with all its parentheses, read again. No program. -/
import Derived.Test.YtlmoeldillpamaaDoorArOps
import Derived.Test.YtlmoeldillpamaaDoorArLeftM
import Derived.Test.YtlmoeldillpamaaDoorArSizeT
namespace Go.Proofs.YtlmoeldillpamaaDoor
open Go.RowKit

/-- The sign of an operator of one operand. -/
def unS (op : ByteArray) : ByteArray := if op.size = 2 then op.extract 1 2 else op
/-- The tree with all its parentheses, as bytes. -/
def inf : Tr → List Int
  | .num n _ => dL n.toNat
  | .name s _ => bys s
  | .un op _ a => 40 :: (bys (unS op) ++ (inf a ++ [41]))
  | .bin op _ a b => 40 :: (inf a ++ (bys op ++ (inf b ++ [41])))
  | .cond _ _ a b c => 40 :: (inf a ++ (63 :: (inf b ++ (58 :: (inf c ++ [41])))))
  | .asg op s _ _ a => 40 :: (bys s ++ (bys op ++ (inf a ++ [41])))

/-- A first byte of an operand. -/
def Fst (x : Int) : Prop := (48 ≤ x ∧ x ≤ 57) ∨ letB x = true ∨ x = 40
theorem Fst.white {x : Int} (h : Fst x) : whiteB x = false := by
  unfold Fst letB at h
  unfold whiteB
  simp at h ⊢
  omega
theorem Fst.op {x : Int} (h : Fst x) : 0 ≤ x ∧ x ≤ 255 ∧ x ≠ 61 ∧ x ≠ 60 ∧ x ≠ 62 ∧ x ≠ 38 ∧ x ≠ 124 := by
  unfold Fst letB at h
  simp at h
  omega
theorem nm_first {s : ByteArray} (h : NmOk s) : ∃ x m, bys s = x :: m ∧ letB x = true := by
  obtain ⟨hne, h⟩ := h
  have hpos := size_pos hne
  have hlen := bys_length s
  have hh := (nmN_is (bys s)).2.1 0 (by omega)
  match hb : bys s with
  | [] => rw [hb] at hlen; simp at hlen; omega
  | x :: m =>
    rw [hb] at hh
    refine ⟨x, m, rfl, ?_⟩
    simpa [nameB] using hh
theorem inf_first : ∀ t : Tr, t.Ops → ∃ x m, inf t = x :: m ∧ Fst x
  | .num n _, _ => by
    obtain ⟨d, ds, e, h1, h2⟩ := dL_cons n.toNat
    exact ⟨d, ds, e, Or.inl ⟨h1, h2⟩⟩
  | .name s _, h => by
    obtain ⟨x, m, e, h1⟩ := nm_first h
    exact ⟨x, m, e, Or.inr (Or.inl h1)⟩
  | .un _ _ _, _ => ⟨_, _, rfl, Or.inr (Or.inr rfl)⟩
  | .bin _ _ _ _, _ => ⟨_, _, rfl, Or.inr (Or.inr rfl)⟩
  | .cond _ _ _ _ _, _ => ⟨_, _, rfl, Or.inr (Or.inr rfl)⟩
  | .asg _ _ _ _ _, _ => ⟨_, _, rfl, Or.inr (Or.inr rfl)⟩
theorem inf_solid {t : Tr} (h : t.Ops) (r : List Int) : ∀ x m, inf t ++ r = x :: m → whiteB x = false := by
  obtain ⟨x, m, e, hf⟩ := inf_first t h
  rw [e]
  intro x' m' e'
  simp only [List.cons_append, List.cons.injEq] at e'
  rw [← e'.1]
  exact hf.white
theorem inf_opEnds {t : Tr} (h : t.Ops) (r : List Int) : OpEnds (inf t ++ r) := by
  obtain ⟨x, m, e, hf⟩ := inf_first t h
  rw [e]
  intro x' m' e'
  simp only [List.cons_append, List.cons.injEq] at e'
  rw [← e'.1]
  exact hf.op
theorem bys_solid {s : ByteArray} (h : NmOk s) (r : List Int) : ∀ x m, bys s ++ r = x :: m → whiteB x = false := by
  obtain ⟨x, m, e, hf⟩ := nm_first h
  rw [e]
  intro x' m' e'
  simp only [List.cons_append, List.cons.injEq] at e'
  rw [← e'.1]
  exact Fst.white (Or.inr (Or.inl hf))
theorem tokL_nm {s : ByteArray} (h : NmOk s) (r : List Int) (hr : Ends r) (q : Nat) : tokL (bys s ++ r) q = ⟨3, q, q + s.size, s, 0, false⟩ := by
  have hpos := size_pos h.1
  have hlen := bys_length s
  have hn : nmN (bys s ++ r) = s.size := by
    rw [nmN_name (by rw [h.2, hlen]) (fun x m e => ⟨(hr x m e).2, fun _ => (hr x m e).1⟩), hlen]
  rw [tk_nm (by simp; omega) (by omega), hn]
  congr 1
  rw [← hlen, List.take_left]
  exact ofBys_bys s
theorem op_at {s : ByteArray} (h : s ∈ opList) : ∃ i, i < 35 ∧ opList.getD i sEmpty = s := by
  obtain ⟨i, hi, e⟩ := List.mem_iff_getElem.1 h
  exact ⟨i, hi, by rw [List.getD_eq_getElem?_getD, List.getElem?_eq_getElem hi]; exact e⟩
theorem tokL_opS {s : ByteArray} (h : s ∈ opList) (r : List Int) (hr : OpEnds r) (q : Nat) : tokL (bys s ++ r) q = ⟨4, q, q + s.size, s, 0, false⟩ := by
  obtain ⟨i, hi, rfl⟩ := op_at h
  exact tokL_op i hi r hr q
theorem opS_ends {s : ByteArray} (h : s ∈ opList) (r : List Int) : Ends (bys s ++ r) := by
  obtain ⟨i, hi, rfl⟩ := op_at h
  exact op_ends i hi r
theorem opS_solid {s : ByteArray} (h : s ∈ opList) (r : List Int) : ∀ x m, bys s ++ r = x :: m → whiteB x = false := by
  obtain ⟨i, hi, rfl⟩ := op_at h
  exact op_solid i hi r
theorem row_mem (s : ByteArray) : ∀ (R : List (List ByteArray)) (k : Nat), 0 < rowFrom s R k → s ∈ R.flatten
  | [], _, h => by simp [rowFrom] at h
  | r :: rs, k, h => by
    unfold rowFrom at h
    by_cases c : r.any (fun x => decide (x = s)) = true
    · obtain ⟨x, hx, e⟩ := List.any_eq_true.1 c
      simp only [decide_eq_true_eq] at e
      subst e
      simp [hx]
    · rw [if_neg c] at h
      have := row_mem s rs (k + 1) h
      simp only [List.flatten_cons, List.mem_append]
      exact Or.inr this
theorem bin_facts : ∀ s ∈ opRows.flatten, (∃ x ∈ opList, x = s) ∧ asgB s = false ∧ ¬ s = sQue := by decide
theorem str_mem {s : ByteArray} (h : 1 ≤ strN s) : s ∈ opList ∧ asgB s = false ∧ ¬ s = sQue := by
  obtain ⟨a, b⟩ := bin_facts s (row_mem s opRows 0 h)
  exact ⟨mem_ex a, b⟩
theorem un_facts0 : ∀ s ∈ unL, (∃ x ∈ opList, x = unS s) ∧ unB (unS s) = s ∧ ¬ s = sEmpty := by decide
theorem un_facts {s : ByteArray} (h : s ∈ unL) : unS s ∈ opList ∧ unB (unS s) = s ∧ ¬ s = sEmpty := by
  obtain ⟨a, b⟩ := un_facts0 s h
  exact ⟨mem_ex a, b⟩

/-- The same but for the places. -/
def Alike (a b : Tr) : Prop := txt a = txt b ∧ sizeT a = sizeT b
/-- A token that ends an operand and what it stands in. -/
def Shut (s : ByteArray) : Prop := asgB s = false ∧ strN s = 0 ∧ ¬ s = sQue
theorem shut_shut : Shut sShut := by unfold Shut; decide
theorem shut_col : Shut sCol := by unfold Shut; decide
theorem shut_no : Shut sEmpty := by unfold Shut; decide

/-- Reading tells it, by so many calls or more. -/
def RdOk (L : List Int) (md : Md) (t : Tk) (e : Tr) (t' : Tk) : Prop := ∃ n, ∀ k, rd L (n + k) md t = some (.ok e t')
theorem RdOk.bin0 {L : List Int} {t t' : Tk} {a : Tr} {m : Nat} (h : RdOk L .opd t a t') (hs : strN t'.text < m) : RdOk L (.bin m) t a t' := by
  obtain ⟨n, hn⟩ := h
  refine ⟨n + 2, fun k => ?_⟩
  rw [show n + 2 + k = (n + k + 1) + 1 by omega, bin_of (n := n + k + 1) (by rw [show n + k + 1 = n + (k + 1) by omega]; exact hn _), loop_stop (by omega)]
theorem RdOk.cond0 {L : List Int} {t t' : Tk} {a : Tr} (h : RdOk L (.bin 1) t a t') (hq : ¬ t'.text = sQue) : RdOk L .cond t a t' := by
  obtain ⟨n, hn⟩ := h
  refine ⟨n + 1, fun k => ?_⟩
  rw [show n + 1 + k = (n + k) + 1 by omega, cond_of (hn k) hq]
theorem RdOk.expr0 {L : List Int} {t t' : Tk} {a : Tr} (h : RdOk L .cond t a t') (hq : ¬ (t.kind = 3 ∧ asgB (tok L t.stop).text = true)) : RdOk L .expr t a t' := by
  obtain ⟨n, hn⟩ := h
  refine ⟨n + 1, fun k => ?_⟩
  rw [show n + 1 + k = (n + k) + 1 by omega]
  simp only [rd]
  rw [if_neg hq]
  exact hn k
/-- An operand alone. -/
theorem RdOk.all {L : List Int} {t t' : Tk} {a : Tr} (h : RdOk L .opd t a t') (hs : Shut t'.text) (hk : t.kind = 3 → tok L t.stop = t') : RdOk L .expr t a t' :=
  ((h.bin0 (by rw [hs.2.1]; decide)).cond0 hs.2.2).expr0 fun hh => by
    rw [hk hh.1] at hh
    exact absurd hh.2 (by rw [hs.1]; decide)
theorem RdOk.binOf {L : List Int} {t t1 t2 : Tk} {a b : Tr} (h : RdOk L .opd t a t1) (hs : 1 ≤ strN t1.text) (h2 : RdOk L .opd (tok L t1.stop) b t2) (hz : strN t2.text = 0) : RdOk L (.bin 1) t (.bin t1.text t1.start a b) t2 := by
  obtain ⟨n, hn⟩ := h
  obtain ⟨m, hm⟩ := h2.bin0 (m := strN t1.text + 1) (by omega)
  refine ⟨n + m + 3, fun k => ?_⟩
  rw [show n + m + 3 + k = (n + m + k + 2) + 1 by omega, bin_of (by rw [show n + m + k + 2 = n + (m + k + 2) by omega]; exact hn _)]
  rw [show n + m + k + 2 = (n + m + k + 1) + 1 by omega, loop_go hs (by rw [show n + m + k + 1 = m + (n + k + 1) by omega]; exact hm _)]
  rw [loop_stop (by omega)]
theorem RdOk.condOf {L : List Int} {t t1 t2 t3 : Tk} {a y z : Tr} (h : RdOk L (.bin 1) t a t1) (hq : t1.text = sQue) (h2 : RdOk L .expr (tok L t1.stop) y t2) (hc : t2.text = sCol) (h3 : RdOk L .cond (tok L t2.stop) z t3) : RdOk L .cond t (.cond t1.text t1.start a y z) t3 := by
  obtain ⟨n, hn⟩ := h
  obtain ⟨m, hm⟩ := h2
  obtain ⟨p, hp⟩ := h3
  refine ⟨n + m + p + 1, fun k => ?_⟩
  rw [show n + m + p + 1 + k = (n + m + p + k) + 1 by omega]
  simp only [rd]
  rw [show rd L (n + m + p + k) (.bin 1) t = some (.ok a t1) by rw [show n + m + p + k = n + (m + p + k) by omega]; exact hn _]
  simp only []
  rw [if_pos hq, show rd L (n + m + p + k) .expr (tok L t1.stop) = some (.ok y t2) by rw [show n + m + p + k = m + (n + p + k) by omega]; exact hm _]
  simp only []
  rw [if_pos hc, show rd L (n + m + p + k) .cond (tok L t2.stop) = some (.ok z t3) by rw [show n + m + p + k = p + (n + m + k) by omega]; exact hp _]
theorem RdOk.asgOf {L : List Int} {t t2 : Tk} {a : Tr} (hk : t.kind = 3) (ha : asgB (tok L t.stop).text = true) (h : RdOk L .expr (tok L (tok L t.stop).stop) a t2) : RdOk L .expr t (.asg (tok L t.stop).text t.text t.start (tok L t.stop).start a) t2 := by
  obtain ⟨n, hn⟩ := h
  refine ⟨n + 1, fun k => ?_⟩
  rw [show n + 1 + k = (n + k) + 1 by omega]
  simp only [rd]
  rw [if_pos ⟨hk, ha⟩, hn k]
theorem RdOk.unOf {L : List Int} {t t2 : Tk} {a : Tr} (hk : t.kind = 4) (hu : ¬ unB t.text = sEmpty) (h : RdOk L .opd (tok L t.stop) a t2) : RdOk L .opd t (.un (unB t.text) t.start a) t2 := by
  obtain ⟨n, hn⟩ := h
  refine ⟨n + 1, fun k => ?_⟩
  rw [show n + 1 + k = (n + k) + 1 by omega]
  simp only [rd]
  rw [if_neg (by rw [hk]; decide), if_neg (by rw [hk]; decide), if_pos hu, hn k]
theorem RdOk.parOf {L : List Int} {t t2 : Tk} {a : Tr} (hk : t.kind = 4) (ht : t.text = sOpen) (h : RdOk L .expr (tok L t.stop) a t2) (hs : t2.text = sShut) : RdOk L .opd t a (tok L t2.stop) := by
  obtain ⟨n, hn⟩ := h
  refine ⟨n + 1, fun k => ?_⟩
  rw [show n + 1 + k = (n + k) + 1 by omega]
  simp only [rd]
  rw [if_neg (by rw [hk]; decide), if_neg (by rw [hk]; decide), if_neg (by rw [ht]; decide), if_pos ht, hn k]
  simp only []
  rw [if_pos hs]

theorem ends41 (m : List Int) : Ends (41 :: m) := Ends.cons (by decide)
theorem ends63 (m : List Int) : Ends (63 :: m) := Ends.cons (by decide)
theorem ends58 (m : List Int) : Ends (58 :: m) := Ends.cons (by decide)
theorem solid_of {x : Int} (m : List Int) (h : whiteB x = false) : ∀ x' m', x :: m = x' :: m' → whiteB x' = false := by
  intro x' m' e
  simp only [List.cons.injEq] at e
  rw [← e.1]
  exact h
theorem at_first {L y r : List Int} (hL : L = y ++ r) (h : ∀ c m, r = c :: m → whiteB c = false) : tok L y.length = tokL r y.length := by rw [hL]; exact tok_here y r h

/-- Written with its parentheses and read again it is what it was. -/
def BackAt (t : Tr) : Prop := ∀ (L y r : List Int), L = y ++ (inf t ++ r) → Ends r → ((tok L y.length).kind = 3 → (tok L y.length).stop = y.length + (inf t).length) ∧ ∃ e, Alike e t ∧ RdOk L .opd (tok L y.length) e (tok L (y.length + (inf t).length))
theorem BackAt.expr {t : Tr} (h : BackAt t) {L y r : List Int} (hL : L = y ++ (inf t ++ r)) (hr : Ends r) (hs : Shut (tok L (y.length + (inf t).length)).text) : ∃ e, Alike e t ∧ RdOk L .expr (tok L y.length) e (tok L (y.length + (inf t).length)) := by
  obtain ⟨h3, e, he, hrd⟩ := h L y r hL hr
  exact ⟨e, he, hrd.all hs fun hk => by rw [h3 hk]⟩
theorem BackAt.cond {t : Tr} (h : BackAt t) {L y r : List Int} (hL : L = y ++ (inf t ++ r)) (hr : Ends r) (hs : Shut (tok L (y.length + (inf t).length)).text) : ∃ e, Alike e t ∧ RdOk L .cond (tok L y.length) e (tok L (y.length + (inf t).length)) := by
  obtain ⟨h3, e, he, hrd⟩ := h L y r hL hr
  exact ⟨e, he, (hrd.bin0 (by rw [hs.2.1]; decide)).cond0 hs.2.2⟩
/-- What stands in parentheses. -/
theorem back_par {L y M r : List Int} {e : Tr} (hL : L = y ++ (40 :: (M ++ (41 :: r)))) (h : RdOk L .expr (tok L (y.length + 1)) e (tok L (y.length + 1 + M.length))) :
    ((tok L y.length).kind = 3 → (tok L y.length).stop = y.length + (M.length + 2)) ∧ RdOk L .opd (tok L y.length) e (tok L (y.length + (M.length + 2))) := by
  have T0 : tok L y.length = ⟨4, y.length, y.length + 1, sOpen, 0, false⟩ := by
    rw [at_first hL (solid_of _ (by decide)), tokL_paren 40 (Or.inl rfl)]
    rfl
  have hL2 : L = (y ++ 40 :: M) ++ (41 :: r) := by rw [hL]; simp
  have hlen : (y ++ 40 :: M).length = y.length + 1 + M.length := by simp; omega
  have T1 : tok L (y.length + 1 + M.length) = ⟨4, y.length + 1 + M.length, y.length + 1 + M.length + 1, sShut, 0, false⟩ := by
    rw [← hlen, at_first hL2 (solid_of _ (by decide)), tokL_paren 41 (Or.inr rfl)]
    rfl
  refine ⟨fun hk => ?_, ?_⟩
  · rw [T0] at hk
    exact absurd hk (show ¬ (4 : Int) = 3 by decide)
  · rw [T0]
    rw [T1] at h
    have := RdOk.parOf (t := ⟨4, y.length, y.length + 1, sOpen, 0, false⟩) rfl rfl h rfl
    rw [show y.length + (M.length + 2) = y.length + 1 + M.length + 1 by omega]
    exact this
/-- The token that shuts, behind what stands in parentheses. -/
theorem tok_shut {L y r : List Int} (hL : L = y ++ (41 :: r)) : tok L y.length = ⟨4, y.length, y.length + 1, sShut, 0, false⟩ := by
  rw [at_first hL (solid_of _ (by decide)), tokL_paren 41 (Or.inr rfl)]
  rfl
theorem tok_sign {L y r : List Int} {s : ByteArray} (hs : s ∈ opList) (hL : L = y ++ (bys s ++ r)) (hr : OpEnds r) : tok L y.length = ⟨4, y.length, y.length + s.size, s, 0, false⟩ := by
  rw [at_first hL (opS_solid hs _), tokL_opS hs r hr]

theorem back : ∀ t : Tr, t.Ops → BackAt t
  | .num n p, h => fun L y r hL hr => by
    obtain ⟨h0, h1⟩ := h
    have hL' : L = y ++ (dL n.toNat ++ r) := hL
    have T : tok L y.length = ⟨2, y.length, y.length + (dL n.toNat).length, sEmpty, n.toNat, false⟩ := by
      rw [at_first hL' (dec_solid _ _), tokL_dec _ (by omega) r hr]
    rw [T]
    refine ⟨fun hk => absurd hk (show ¬ (2 : Int) = 3 by decide), .num n.toNat y.length, ⟨?_, rfl⟩, 1, fun k => ?_⟩
    · show Lib.itoa _ = Lib.itoa _
      rw [show ((n.toNat : Nat) : Int) = n by omega]
    · rw [show 1 + k = k + 1 by omega]
      refine opd_numL rfl rfl ?_
      show goesB L (y.length + (dL n.toNat).length) = false
      have e : L = (y ++ dL n.toNat) ++ r := by rw [hL', List.append_assoc]
      rw [e, ← List.length_append]
      exact goesB_ends _ r hr
  | .name s p, h => fun L y r hL hr => by
    have hL' : L = y ++ (bys s ++ r) := hL
    have hlen := bys_length s
    have T : tok L y.length = ⟨3, y.length, y.length + s.size, s, 0, false⟩ := by
      rw [at_first hL' (bys_solid h _), tokL_nm h r hr]
    rw [T]
    refine ⟨fun _ => ?_, .name s y.length, ⟨rfl, rfl⟩, 1, fun k => ?_⟩
    · show y.length + s.size = y.length + (bys s).length
      rw [hlen]
    · rw [show 1 + k = k + 1 by omega]
      simp only [rd]
      rw [if_neg (by decide), if_pos trivial]
      show some (Rs.ok _ (tok L (y.length + s.size))) = some (Rs.ok _ (tok L (y.length + (bys s).length)))
      rw [hlen]
  | .un op p a, h => fun L y r hL _ => by
    obtain ⟨hop, ha⟩ := h
    obtain ⟨hu, hub, hne⟩ := un_facts hop
    have hlen := bys_length (unS op)
    have hL0 : L = y ++ (40 :: ((bys (unS op) ++ inf a) ++ (41 :: r))) := by rw [hL]; simp [inf]
    have hL1 : L = (y ++ [40]) ++ (bys (unS op) ++ (inf a ++ (41 :: r))) := by rw [hL0]; simp
    have hL2 : L = ((y ++ [40]) ++ bys (unS op)) ++ (inf a ++ (41 :: r)) := by rw [hL0]; simp
    have hL3 : L = (((y ++ [40]) ++ bys (unS op)) ++ inf a) ++ (41 :: r) := by rw [hL0]; simp
    have e1 : (y ++ [40]).length = y.length + 1 := by simp
    have e2 : ((y ++ [40]) ++ bys (unS op)).length = y.length + 1 + (unS op).size := by simp [hlen]; omega
    have e3 : (((y ++ [40]) ++ bys (unS op)) ++ inf a).length = y.length + 1 + (unS op).size + (inf a).length := by simp [hlen]; omega
    have T1 := tok_sign hu hL1 (inf_opEnds ha _)
    have T3 := tok_shut hL3
    obtain ⟨-, e, he, hrd⟩ := back a ha L _ _ hL2 (ends41 r)
    rw [e1] at T1
    rw [e2] at hrd
    rw [e3] at T3
    rw [T3] at hrd
    have hun := RdOk.unOf (t := ⟨4, y.length + 1, y.length + 1 + (unS op).size, unS op, 0, false⟩) rfl (by rw [show (Tk.text ⟨4, y.length + 1, y.length + 1 + (unS op).size, unS op, 0, false⟩) = unS op from rfl, hub]; exact hne) hrd
    have hall0 := hun.all shut_shut fun hk => absurd hk (show ¬ (4 : Int) = 3 by decide)
    have hall : RdOk L .expr (tok L (y.length + 1)) (.un (unB (unS op)) (y.length + 1) e) (tok L (y.length + 1 + (unS op).size + (inf a).length)) := by
      rw [T1, T3]
      exact hall0
    have hM : (bys (unS op) ++ inf a).length = (unS op).size + (inf a).length := by simp [hlen]
    have hp := back_par hL0 (e := .un (unB (unS op)) (y.length + 1) e) (by rw [hM, ← Nat.add_assoc]; exact hall)
    have hI : (inf (.un op p a)).length = (bys (unS op) ++ inf a).length + 2 := by simp [inf]; omega
    rw [hI]
    refine ⟨hp.1, _, ⟨?_, ?_⟩, hp.2⟩
    · show opTxt _ _ _ = opTxt _ _ _
      rw [he.1, hub]
    · show _ + _ = _ + _
      rw [he.2, hub]
  | .bin op p a b, h => fun L y r hL _ => by
    obtain ⟨hop, ha, hb⟩ := h
    obtain ⟨hu, hna, hnq⟩ := str_mem hop
    have hlen := bys_length op
    have hL0 : L = y ++ (40 :: ((inf a ++ (bys op ++ inf b)) ++ (41 :: r))) := by rw [hL]; simp [inf]
    have hL1 : L = (y ++ [40]) ++ (inf a ++ (bys op ++ (inf b ++ (41 :: r)))) := by rw [hL0]; simp
    have hL2 : L = ((y ++ [40]) ++ inf a) ++ (bys op ++ (inf b ++ (41 :: r))) := by rw [hL0]; simp
    have hL3 : L = (((y ++ [40]) ++ inf a) ++ bys op) ++ (inf b ++ (41 :: r)) := by rw [hL0]; simp
    have hL4 : L = ((((y ++ [40]) ++ inf a) ++ bys op) ++ inf b) ++ (41 :: r) := by rw [hL0]; simp
    have e1 : (y ++ [40]).length = y.length + 1 := by simp
    have e2 : ((y ++ [40]) ++ inf a).length = y.length + 1 + (inf a).length := by simp; omega
    have e3 : (((y ++ [40]) ++ inf a) ++ bys op).length = y.length + 1 + (inf a).length + op.size := by simp [hlen]; omega
    have e4 : ((((y ++ [40]) ++ inf a) ++ bys op) ++ inf b).length = y.length + 1 + (inf a).length + op.size + (inf b).length := by simp [hlen]; omega
    have T2 := tok_sign hu hL2 (inf_opEnds hb _)
    have T4 := tok_shut hL4
    obtain ⟨h3, ea, hea, hra⟩ := back a ha L _ _ hL1 (opS_ends hu _)
    obtain ⟨-, eb, heb, hrb⟩ := back b hb L _ _ hL3 (ends41 r)
    rw [e1] at hra h3
    rw [e2] at T2
    rw [e3] at hrb
    rw [e4] at T4
    rw [T2] at hra
    rw [T4] at hrb
    have hbin := (RdOk.binOf hra hop hrb shut_shut.2.1).cond0 shut_shut.2.2
    have hall := hbin.expr0 fun hh => by
      rw [h3 hh.1, T2] at hh
      exact absurd hh.2 (by rw [show (Tk.text ⟨4, y.length + 1 + (inf a).length, y.length + 1 + (inf a).length + op.size, op, 0, false⟩) = op from rfl, hna]; decide)
    rw [← T4] at hall
    have hM : (inf a ++ (bys op ++ inf b)).length = (inf a).length + op.size + (inf b).length := by simp [hlen]; omega
    have hp := back_par hL0 (by rw [hM, ← Nat.add_assoc, ← Nat.add_assoc]; exact hall)
    have hI : (inf (.bin op p a b)).length = (inf a ++ (bys op ++ inf b)).length + 2 := by simp [inf]; omega
    rw [hI]
    refine ⟨hp.1, _, ⟨?_, ?_⟩, hp.2⟩
    · show opTxt _ _ _ = opTxt _ _ _
      rw [hea.1, heb.1]
    · show _ + _ = _ + _
      rw [hea.2, heb.2]
  | .cond op p a b c, h => fun L y r hL _ => by
    obtain ⟨rfl, ha, hb, hc⟩ := h
    have hL0 : L = y ++ (40 :: ((inf a ++ (63 :: (inf b ++ (58 :: inf c)))) ++ (41 :: r))) := by rw [hL]; simp [inf]
    have hL1 : L = (y ++ [40]) ++ (inf a ++ (63 :: (inf b ++ (58 :: (inf c ++ (41 :: r)))))) := by rw [hL0]; simp
    have hL2 : L = ((y ++ [40]) ++ inf a) ++ (bys sQue ++ (inf b ++ (58 :: (inf c ++ (41 :: r))))) := by rw [hL0]; simp [bys, sQue]
    have hL3 : L = (((y ++ [40]) ++ inf a) ++ [63]) ++ (inf b ++ (58 :: (inf c ++ (41 :: r)))) := by rw [hL0]; simp
    have hL4 : L = ((((y ++ [40]) ++ inf a) ++ [63]) ++ inf b) ++ (bys sCol ++ (inf c ++ (41 :: r))) := by rw [hL0]; simp [bys, sCol]
    have hL5 : L = (((((y ++ [40]) ++ inf a) ++ [63]) ++ inf b) ++ [58]) ++ (inf c ++ (41 :: r)) := by rw [hL0]; simp
    have hL6 : L = ((((((y ++ [40]) ++ inf a) ++ [63]) ++ inf b) ++ [58]) ++ inf c) ++ (41 :: r) := by rw [hL0]; simp
    have e1 : (y ++ [40]).length = y.length + 1 := by simp
    have e2 : ((y ++ [40]) ++ inf a).length = y.length + 1 + (inf a).length := by simp; omega
    have e3 : (((y ++ [40]) ++ inf a) ++ [63]).length = y.length + 1 + (inf a).length + 1 := by simp; omega
    have e4 : ((((y ++ [40]) ++ inf a) ++ [63]) ++ inf b).length = y.length + 1 + (inf a).length + 1 + (inf b).length := by simp; omega
    have e5 : (((((y ++ [40]) ++ inf a) ++ [63]) ++ inf b) ++ [58]).length = y.length + 1 + (inf a).length + 1 + (inf b).length + 1 := by simp; omega
    have e6 : ((((((y ++ [40]) ++ inf a) ++ [63]) ++ inf b) ++ [58]) ++ inf c).length = y.length + 1 + (inf a).length + 1 + (inf b).length + 1 + (inf c).length := by simp; omega
    have T2 := tok_sign (mem_ex (by decide)) hL2 (inf_opEnds hb _)
    have T4 := tok_sign (mem_ex (by decide)) hL4 (inf_opEnds hc _)
    have T6 := tok_shut hL6
    rw [e2, show sQue.size = 1 from rfl] at T2
    rw [e4, show sCol.size = 1 from rfl] at T4
    rw [e6] at T6
    obtain ⟨h3, ea, hea, hra⟩ := back a ha L _ _ hL1 (ends63 _)
    obtain ⟨eb, heb, hrb⟩ := (back b hb).expr hL3 (ends58 _) (by rw [e3, T4]; exact shut_col)
    obtain ⟨ec, hec, hrc⟩ := (back c hc).cond hL5 (ends41 r) (by rw [e5, T6]; exact shut_shut)
    rw [e1] at hra h3
    rw [e3] at hrb
    rw [e5] at hrc
    rw [T2] at hra
    rw [T4] at hrb
    rw [T6] at hrc
    have hcond := RdOk.condOf (hra.bin0 (show strN sQue < 1 by decide)) rfl hrb rfl hrc
    have hall := hcond.expr0 fun hh => by
      rw [h3 hh.1, T2] at hh
      exact absurd hh.2 (show ¬ asgB sQue = true by decide)
    rw [← T6] at hall
    have hM : (inf a ++ (63 :: (inf b ++ (58 :: inf c)))).length = (inf a).length + 1 + (inf b).length + 1 + (inf c).length := by simp; omega
    have hp := back_par hL0 (by rw [hM, ← Nat.add_assoc, ← Nat.add_assoc, ← Nat.add_assoc, ← Nat.add_assoc]; exact hall)
    have hI : (inf (.cond sQue p a b c)).length = (inf a ++ (63 :: (inf b ++ (58 :: inf c)))).length + 2 := by simp [inf]; omega
    rw [hI]
    refine ⟨hp.1, _, ⟨?_, ?_⟩, hp.2⟩
    · show opTxt _ _ _ = opTxt _ _ _
      rw [hea.1, heb.1, hec.1]
    · show _ + _ = _ + _
      rw [hea.2, heb.2, hec.2]
  | .asg op s p q a, h => fun L y r hL _ => by
    obtain ⟨hasg, hu, hs, ha⟩ := h
    have hlen := bys_length op
    have hlens := bys_length s
    have hL0 : L = y ++ (40 :: ((bys s ++ (bys op ++ inf a)) ++ (41 :: r))) := by rw [hL]; simp [inf]
    have hL1 : L = (y ++ [40]) ++ (bys s ++ (bys op ++ (inf a ++ (41 :: r)))) := by rw [hL0]; simp
    have hL2 : L = ((y ++ [40]) ++ bys s) ++ (bys op ++ (inf a ++ (41 :: r))) := by rw [hL0]; simp
    have hL3 : L = (((y ++ [40]) ++ bys s) ++ bys op) ++ (inf a ++ (41 :: r)) := by rw [hL0]; simp
    have hL4 : L = ((((y ++ [40]) ++ bys s) ++ bys op) ++ inf a) ++ (41 :: r) := by rw [hL0]; simp
    have e1 : (y ++ [40]).length = y.length + 1 := by simp
    have e2 : ((y ++ [40]) ++ bys s).length = y.length + 1 + s.size := by simp [hlens]; omega
    have e3 : (((y ++ [40]) ++ bys s) ++ bys op).length = y.length + 1 + s.size + op.size := by simp [hlen, hlens]; omega
    have e4 : ((((y ++ [40]) ++ bys s) ++ bys op) ++ inf a).length = y.length + 1 + s.size + op.size + (inf a).length := by simp [hlen, hlens]; omega
    have T1 : tok L (y.length + 1) = ⟨3, y.length + 1, y.length + 1 + s.size, s, 0, false⟩ := by
      rw [← e1, at_first hL1 (bys_solid hs _), tokL_nm hs _ (opS_ends hu _)]
    have T2 := tok_sign hu hL2 (inf_opEnds ha _)
    have T4 := tok_shut hL4
    rw [e2] at T2
    rw [e4] at T4
    obtain ⟨ea, hea, hra⟩ := (back a ha).expr hL3 (ends41 r) (by rw [e3, T4]; exact shut_shut)
    rw [e3] at hra
    have hall := RdOk.asgOf (L := L) (t := ⟨3, y.length + 1, y.length + 1 + s.size, s, 0, false⟩) (a := ea) (t2 := tok L (y.length + 1 + s.size + op.size + (inf a).length)) rfl (by show asgB (tok L (y.length + 1 + s.size)).text = true; rw [T2]; exact hasg) (by show RdOk L .expr (tok L (tok L (y.length + 1 + s.size)).stop) _ _; rw [T2]; exact hra)
    rw [← T1] at hall
    have hM : (bys s ++ (bys op ++ inf a)).length = s.size + op.size + (inf a).length := by simp [hlen, hlens]; omega
    have hp := back_par hL0 (by rw [hM, ← Nat.add_assoc, ← Nat.add_assoc]; exact hall)
    have hI : (inf (.asg op s p q a)).length = (bys s ++ (bys op ++ inf a)).length + 2 := by simp [inf]; omega
    rw [hI]
    refine ⟨hp.1, _, ⟨?_, ?_⟩, hp.2⟩
    · rw [T1]
      show opTxt (tok L (y.length + 1 + s.size)).text _ _ = opTxt _ _ _
      rw [T2, hea.1]
    · rw [T1]
      show oneN (tok L (y.length + 1 + s.size)).text + _ = _ + _
      rw [T2, hea.2]

/-- Read again, by so many calls. -/
theorem parse_back {t : Tr} (h : t.Ops) (hl : (inf t).length ≤ 1024) : ∃ n e k, parseP (inf t) n = some (.ok e k) ∧ Alike e t := by
  have hL : inf t = [] ++ (inf t ++ []) := by simp
  have T : tok (inf t) (([] : List Int).length + (inf t).length) = ⟨0, (inf t).length, (inf t).length, sEmpty, 0, false⟩ := by
    rw [show ([] : List Int).length + (inf t).length = (inf t).length by simp]
    exact tok_last _
  obtain ⟨e, he, n, hn⟩ := (back t h).expr hL Ends.nil (by rw [T]; exact shut_no)
  refine ⟨n, e, tok (inf t) (([] : List Int).length + (inf t).length), ?_, he⟩
  unfold parseP
  rw [if_neg (by omega)]
  unfold readP
  have := hn 0
  rw [Nat.add_zero] at this
  rw [show tok (inf t) 0 = tok (inf t) ([] : List Int).length from rfl, this, T]
  rfl
end Go.Proofs.YtlmoeldillpamaaDoor
