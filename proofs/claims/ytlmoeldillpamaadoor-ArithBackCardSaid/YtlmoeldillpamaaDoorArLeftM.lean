/- Plain facts: two operators between three decimals, read. No program. -/
import Derived.Test.YtlmoeldillpamaaDoorArDec
import Derived.Test.YtlmoeldillpamaaDoorArIn
namespace Go.Proofs.YtlmoeldillpamaaDoor
open Go.RowKit

theorem opd_numL {l : List Int} {n : Nat} {t : Tk} (hk : t.kind = 2) (ho : t.over = false) (hg : goesB l t.stop = false) : rd l (n + 1) .opd t = some (.ok (.num t.num t.start) (tok l t.stop)) := by
  simp only [rd]
  rw [if_pos hk, if_neg (by rw [ho]; decide), if_neg (by rw [hg]; decide)]
theorem loop_stop {l : List Int} {n k : Nat} {left : Tr} {t : Tk} (h : ¬ k ≤ strN t.text) : rd l (n + 1) (.loop k left) t = some (.ok left t) := by
  simp only [rd]
  rw [if_neg h]
theorem loop_go {l : List Int} {n k : Nat} {left b : Tr} {t t2 : Tk} (h : k ≤ strN t.text) (hb : rd l n (.bin (strN t.text + 1)) (tok l t.stop) = some (.ok b t2)) : rd l (n + 1) (.loop k left) t = rd l n (.loop k (.bin t.text t.start left b)) t2 := by
  simp only [rd]
  rw [if_pos h, hb]
theorem bin_of {l : List Int} {n k : Nat} {a : Tr} {t t1 : Tk} (h : rd l n .opd t = some (.ok a t1)) : rd l (n + 1) (.bin k) t = rd l n (.loop k a) t1 := by
  simp only [rd]
  rw [h]
theorem cond_of {l : List Int} {n : Nat} {a : Tr} {t t1 : Tk} (h : rd l n (.bin 1) t = some (.ok a t1)) (hq : ¬ t1.text = sQue) : rd l (n + 1) .cond t = some (.ok a t1) := by
  simp only [rd]
  rw [h]
  simp only []
  rw [if_neg hq]
theorem expr_of {l : List Int} {n : Nat} {t : Tk} (h : ¬ t.kind = 3) : rd l (n + 1) .expr t = rd l n .cond t := by
  simp only [rd]
  rw [if_neg fun hh => h hh.1]

/-- The token that stands just there. -/
theorem tok_here (y r : List Int) (h : ∀ x m, r = x :: m → whiteB x = false) : tok (y ++ r) y.length = tokL r y.length := by
  have e : skipN (y ++ r) y.length = y.length := by
    unfold skipN
    rw [List.drop_left]
    cases r with
    | nil => simp [pre]
    | cons x m => simp [pre, h x m rfl]
  unfold tok
  rw [e, List.drop_left]
theorem tok_white (y r : List Int) (h : ∀ x m, r = x :: m → whiteB x = false) : tok (y ++ 32 :: r) y.length = tokL r (y.length + 1) := by
  have e : skipN (y ++ 32 :: r) y.length = y.length + 1 := by
    unfold skipN
    rw [List.drop_left]
    cases r with
    | nil => simp [pre, whiteB]
    | cons x m =>
      have := h x m rfl
      simp [pre, this, show whiteB 32 = true from rfl]
  unfold tok
  rw [e, drop_sh]
  rfl
theorem goesB_ends (y r : List Int) (h : Ends r) : goesB (y ++ r) y.length = false := by
  have := goesB_sh y r 0
  rw [Nat.add_zero] at this
  rw [this]
  unfold goesB
  cases r with
  | nil => simp
  | cons x m =>
    obtain ⟨h1, h2⟩ := h x m rfl
    have h3 : nmN ((x :: m).drop 0) = 0 := nmN_zero fun x' m' e => by
      simp only [List.drop_zero, List.cons.injEq] at e
      rw [← e.1]
      exact h2
    rw [h3]
    simp [h1]

theorem op_first (i : Nat) (hi : i < 35) : ∃ x m, bys (opList.getD i sEmpty) = x :: m ∧ numB x = false ∧ letB x = false ∧ whiteB x = false := by
  have h : ∀ i : Fin 35, (match bys (opList.getD i.val sEmpty) with | [] => false | x :: _ => !(numB x) && !(letB x) && !(whiteB x)) = true := by decide
  have hh := h ⟨i, hi⟩
  simp only [] at hh
  generalize bys (opList.getD i sEmpty) = b at *
  match b, hh with
  | x :: m, hh =>
    simp only [Bool.and_eq_true, Bool.not_eq_true'] at hh
    exact ⟨x, m, rfl, hh.1.1, hh.1.2, hh.2⟩
theorem op_ends (i : Nat) (hi : i < 35) (r : List Int) : Ends (bys (opList.getD i sEmpty) ++ r) := by
  obtain ⟨x, m, e, h1, h2, _⟩ := op_first i hi
  rw [e]
  exact Ends.cons ⟨h1, h2⟩
theorem op_solid (i : Nat) (hi : i < 35) (r : List Int) : ∀ x m, bys (opList.getD i sEmpty) ++ r = x :: m → whiteB x = false := by
  obtain ⟨x, m, e, _, _, h3⟩ := op_first i hi
  rw [e]
  intro x' m' e'
  simp only [List.cons_append, List.cons.injEq] at e'
  rw [← e'.1]
  exact h3
theorem dec_solid (n : Nat) (r : List Int) : ∀ x m, dL n ++ r = x :: m → whiteB x = false := by
  obtain ⟨d, ds, e, h1, h2⟩ := dL_cons n
  rw [e]
  intro x' m' e'
  simp only [List.cons_append, List.cons.injEq] at e'
  rw [← e'.1]
  unfold whiteB
  simp
  omega
theorem dec_opEnds (n : Nat) (r : List Int) : OpEnds (dL n ++ r) := by
  obtain ⟨d, ds, e, h1, h2⟩ := dL_cons n
  rw [e]
  intro x' m' e'
  simp only [List.cons_append, List.cons.injEq] at e'
  obtain ⟨rfl, _⟩ := e'
  omega
theorem tok_last (l : List Int) : tok l l.length = ⟨0, l.length, l.length, sEmpty, 0, false⟩ := by
  have e : skipN l l.length = l.length := by unfold skipN; rw [List.drop_length]; rfl
  unfold tok
  rw [e, List.drop_length]
  rfl

/-- The operators between operands, as they stand among all. -/
def binIx : List Nat := [17, 16, 31, 30, 29, 14, 15, 27, 12, 28, 13, 10, 11, 22, 23, 24, 25, 26]
def binOp (i : Nat) : ByteArray := opList.getD (binIx.getD i 0) sEmpty
def leftL (i j x y z : Nat) : List Int := dL x ++ (bys (binOp i) ++ (dL y ++ (32 :: (bys (binOp j) ++ dL z))))
theorem bin_lt (i : Nat) (hi : i < 18) : binIx.getD i 0 < 35 := by
  have h : ∀ i : Fin 18, binIx.getD i.val 0 < 35 := by decide
  exact h ⟨i, hi⟩
theorem bop_ends (i : Nat) (hi : i < 18) (r : List Int) : Ends (bys (binOp i) ++ r) := op_ends _ (bin_lt i hi) r
theorem bop_solid (i : Nat) (hi : i < 18) (r : List Int) : ∀ x m, bys (binOp i) ++ r = x :: m → whiteB x = false := op_solid _ (bin_lt i hi) r
theorem bop_tok (i : Nat) (hi : i < 18) (r : List Int) (hr : OpEnds r) (q : Nat) : tokL (bys (binOp i) ++ r) q = ⟨4, q, q + (binOp i).size, binOp i, 0, false⟩ := tokL_op _ (bin_lt i hi) r hr q
theorem bin_str (i : Nat) (hi : i < 18) : 1 ≤ strN (binOp i) := by
  have h : ∀ i : Fin 18, 1 ≤ strN (binOp i.val) := by decide
  exact h ⟨i, hi⟩

theorem read_left (i j x y z : Nat) (hi : i < 18) (hj : j < 18) (hx : x ≤ 65535) (hy : y ≤ 65535) (hz : z ≤ 65535) : ∃ t p q r s u, t.kind = 0 ∧
    readP (leftL i j x y z) 12 = some (.ok (if strN (binOp i) < strN (binOp j) then .bin (binOp i) p (.num x r) (.bin (binOp j) q (.num y s) (.num z u)) else .bin (binOp j) q (.bin (binOp i) p (.num x r) (.num y s)) (.num z u)) t) := by
  have hsi := bin_str i hi
  have hsj := bin_str j hj
  have s0 : strN sEmpty = 0 := by decide
  obtain ⟨L, hL⟩ : ∃ L, L = leftL i j x y z := ⟨_, rfl⟩
  rw [← hL]
  have E1 : L = dL x ++ (bys (binOp i) ++ (dL y ++ (32 :: (bys (binOp j) ++ dL z)))) := hL
  have E2 : L = (dL x ++ bys (binOp i)) ++ (dL y ++ (32 :: (bys (binOp j) ++ dL z))) := by rw [E1, List.append_assoc]
  have E3 : L = ((dL x ++ bys (binOp i)) ++ dL y) ++ (32 :: (bys (binOp j) ++ dL z)) := by rw [E2, List.append_assoc (dL x ++ bys (binOp i))]
  have E4 : L = (((dL x ++ bys (binOp i)) ++ dL y) ++ 32 :: bys (binOp j)) ++ (dL z ++ []) := by rw [E3]; simp
  have bl : ∀ k, (bys (binOp k)).length = (binOp k).size := fun k => bys_length _
  have p2 : (dL x ++ bys (binOp i)).length = (dL x).length + (binOp i).size := by rw [List.length_append, bl]
  have p3 : ((dL x ++ bys (binOp i)) ++ dL y).length = (dL x).length + (binOp i).size + (dL y).length := by rw [List.length_append, p2]
  have p4 : (((dL x ++ bys (binOp i)) ++ dL y) ++ 32 :: bys (binOp j)).length = (dL x).length + (binOp i).size + (dL y).length + 1 + (binOp j).size := by rw [List.length_append, p3, List.length_cons, bl]; omega
  have p5 : L.length = (dL x).length + (binOp i).size + (dL y).length + 1 + (binOp j).size + (dL z).length := by rw [E4, List.length_append, p4, List.append_nil]
  have w32 : Ends (32 :: (bys (binOp j) ++ dL z)) := Ends.cons ⟨rfl, rfl⟩
  have T0 : tok L 0 = ⟨2, 0, 0 + (dL x).length, sEmpty, x, false⟩ := by
    have := tok_here [] L (by rw [E1]; exact dec_solid x _)
    simp only [List.nil_append, List.length_nil] at this
    rw [this, E1, tokL_dec x (by omega) _ (bop_ends i hi _)]
  have T1 : tok L (0 + (dL x).length) = ⟨4, (dL x).length, (dL x).length + (binOp i).size, binOp i, 0, false⟩ := by
    rw [Nat.zero_add, E1, tok_here _ _ (bop_solid i hi _)]
    exact bop_tok i hi _ (dec_opEnds y _) _
  have T2 : tok L ((dL x).length + (binOp i).size) = ⟨2, (dL x).length + (binOp i).size, (dL x).length + (binOp i).size + (dL y).length, sEmpty, y, false⟩ := by
    rw [← p2, E2, tok_here _ _ (dec_solid y _), tokL_dec y (by omega) _ w32]
  have T3 : tok L ((dL x).length + (binOp i).size + (dL y).length) = ⟨4, (dL x).length + (binOp i).size + (dL y).length + 1, (dL x).length + (binOp i).size + (dL y).length + 1 + (binOp j).size, binOp j, 0, false⟩ := by
    rw [← p3, E3, tok_white _ _ (bop_solid j hj _)]
    have := dec_opEnds z []
    rw [List.append_nil] at this
    exact bop_tok j hj _ this _
  have T4 : tok L ((dL x).length + (binOp i).size + (dL y).length + 1 + (binOp j).size) = ⟨2, (dL x).length + (binOp i).size + (dL y).length + 1 + (binOp j).size, (dL x).length + (binOp i).size + (dL y).length + 1 + (binOp j).size + (dL z).length, sEmpty, z, false⟩ := by
    rw [← p4, E4, tok_here _ _ (dec_solid z _), tokL_dec z (by omega) _ Ends.nil]
  have T5 : tok L ((dL x).length + (binOp i).size + (dL y).length + 1 + (binOp j).size + (dL z).length) = ⟨0, L.length, L.length, sEmpty, 0, false⟩ := by
    rw [← p5]
    exact tok_last L
  have G0 : goesB L (0 + (dL x).length) = false := by
    rw [Nat.zero_add, E1]
    exact goesB_ends _ _ (bop_ends i hi _)
  have G2 : goesB L ((dL x).length + (binOp i).size + (dL y).length) = false := by
    rw [← p3, E3]
    exact goesB_ends _ _ w32
  have G4 : goesB L ((dL x).length + (binOp i).size + (dL y).length + 1 + (binOp j).size + (dL z).length) = false := by
    rw [← p5]
    have := goesB_ends L [] Ends.nil
    rw [List.append_nil] at this
    exact this
  clear E1 E2 E3 E4 p2 p3 p4 w32 bl
  generalize (dL x).length = a at *
  generalize (dL y).length = b at *
  generalize (dL z).length = c at *
  generalize hoi : binOp i = oi at *
  generalize hoj : binOp j = oj at *
  have O0 : ∀ n, rd L (n + 1) .opd (tok L 0) = some (.ok (.num x 0) ⟨4, a, a + oi.size, oi, 0, false⟩) := fun n => by
    rw [T0, opd_numL rfl rfl G0]
    simp only []
    rw [T1]
  have O2 : ∀ n, rd L (n + 1) .opd ⟨2, a + oi.size, a + oi.size + b, sEmpty, y, false⟩ = some (.ok (.num y (a + oi.size)) ⟨4, a + oi.size + b + 1, a + oi.size + b + 1 + oj.size, oj, 0, false⟩) := fun n => by
    rw [opd_numL rfl rfl G2]
    simp only []
    rw [T3]
  have O4 : ∀ n, rd L (n + 1) .opd ⟨2, a + oi.size + b + 1 + oj.size, a + oi.size + b + 1 + oj.size + c, sEmpty, z, false⟩ = some (.ok (.num z (a + oi.size + b + 1 + oj.size)) ⟨0, L.length, L.length, sEmpty, 0, false⟩) := fun n => by
    rw [opd_numL rfl rfl G4]
    simp only []
    rw [T5]
  have hend : ∀ k, 1 ≤ k → ¬ k ≤ strN (Tk.text ⟨0, L.length, L.length, sEmpty, 0, false⟩) := fun k hk => by
    show ¬ k ≤ strN sEmpty
    rw [s0]
    omega
  have B4 : ∀ n k, 1 ≤ k → rd L (n + 2) (.bin k) (tok L (a + oi.size + b + 1 + oj.size)) = some (.ok (.num z (a + oi.size + b + 1 + oj.size)) ⟨0, L.length, L.length, sEmpty, 0, false⟩) := fun n k hk => by
    rw [T4, bin_of (O4 n), loop_stop (hend k hk)]
  refine ⟨⟨0, L.length, L.length, sEmpty, 0, false⟩, a, a + oi.size + b + 1, 0, a + oi.size, a + oi.size + b + 1 + oj.size, rfl, ?_⟩
  have key : rd L 10 (.bin 1) (tok L 0) = some (.ok (if strN oi < strN oj then .bin oi a (.num x 0) (.bin oj (a + oi.size + b + 1) (.num y (a + oi.size)) (.num z (a + oi.size + b + 1 + oj.size))) else .bin oj (a + oi.size + b + 1) (.bin oi a (.num x 0) (.num y (a + oi.size))) (.num z (a + oi.size + b + 1 + oj.size))) ⟨0, L.length, L.length, sEmpty, 0, false⟩) := by
    rw [bin_of (O0 8)]
    by_cases hlt : strN oi < strN oj
    · have hB : rd L 8 (.bin (strN oi + 1)) (tok L (a + oi.size)) = some (.ok (.bin oj (a + oi.size + b + 1) (.num y (a + oi.size)) (.num z (a + oi.size + b + 1 + oj.size))) ⟨0, L.length, L.length, sEmpty, 0, false⟩) := by
        rw [T2, bin_of (O2 6), loop_go (show strN oi + 1 ≤ strN oj by omega) (B4 4 _ (by omega)), loop_stop (hend _ (by omega))]
      rw [loop_go (show 1 ≤ strN oi from hsi) hB, loop_stop (hend _ (by omega)), if_pos hlt]
    · have hB : rd L 8 (.bin (strN oi + 1)) (tok L (a + oi.size)) = some (.ok (.num y (a + oi.size)) ⟨4, a + oi.size + b + 1, a + oi.size + b + 1 + oj.size, oj, 0, false⟩) := by
        rw [T2, bin_of (O2 6), loop_stop (show ¬ strN oi + 1 ≤ strN oj by omega)]
      rw [loop_go (show 1 ≤ strN oi from hsi) hB, loop_go (show 1 ≤ strN oj from hsj) (B4 5 _ (by omega)), loop_stop (hend _ (by omega)), if_neg hlt]
  unfold readP
  rw [expr_of (by rw [T0]; show ¬ (2 : Int) = 3; decide), cond_of key (by show ¬ sEmpty = sQue; decide)]
  rfl
end Go.Proofs.YtlmoeldillpamaaDoor
