/- Plain facts: what the reference's reader of arithmetic sees at a place. No program. -/
import Derived.Test.YtacfglopionkfaaGreatDoorArOps
namespace Go.Proofs.YtacfglopionkfaaGreatDoor
open Go.RowKit

/-- The operator at the place p, behind white bytes. -/
def sgB (l : List Int) (p : Nat) : ByteArray := opB (l.drop (skipN l p))

theorem white_end (p : Int → Bool) : ∀ (r : List Int) (x : Int) (m : List Int), r.drop (pre p r) = x :: m → p x = false
  | [], x, m, h => by simp at h
  | c :: r, x, m, h => by
    unfold pre at h
    by_cases hc : p c = true
    · rw [List.takeWhile_cons_of_pos hc, List.length_cons, List.drop_succ_cons] at h
      exact white_end p r x m h
    · rw [List.takeWhile_cons_of_neg hc] at h
      simp only [List.length_nil, List.drop_zero, List.cons.injEq] at h
      rw [← h.1]
      simpa using hc
theorem pre_zero (p : Int → Bool) : ∀ r : List Int, (∀ x m, r = x :: m → p x = false) → pre p r = 0
  | [], _ => rfl
  | c :: r, h => by
    unfold pre
    rw [List.takeWhile_cons_of_neg (by rw [h c r rfl]; decide)]
    rfl
theorem skip_idem (l : List Int) (p : Nat) : skipN l (skipN l p) = skipN l p := by
  have h : pre whiteB (l.drop (skipN l p)) = 0 := pre_zero _ _ fun x m e => white_end whiteB (l.drop p) x m (by
    rw [List.drop_drop]
    exact e)
  show skipN l p + pre whiteB (l.drop (skipN l p)) = _
  rw [h]
  rfl
theorem tok_skip (l : List Int) (p : Nat) : tok l (skipN l p) = tok l p := by unfold tok; rw [skip_idem]
theorem opB_word {x : Int} {m : List Int} (h : letB x = true ∨ numB x = true) : opB (x :: m) = sEmpty := by
  rcases opFrom_mem (x :: m) opList with h' | ⟨hm, hb⟩
  · exact h'
  · exfalso
    have hh := ops_head _ hm
    rw [begins_iff] at hb
    generalize opFrom (x :: m) opList = s at *
    obtain ⟨h1, h2⟩ := hb
    obtain ⟨h3, h4⟩ := hh
    obtain ⟨k, hk⟩ : ∃ k, s.size = k + 1 := ⟨s.size - 1, by omega⟩
    rw [hk, List.take_succ_cons, List.map_cons] at h2
    rw [← h2, List.all_cons] at h4
    simp only [Bool.and_eq_true] at h4
    obtain ⟨⟨a1, a2⟩, _⟩ := h4
    have hx : 48 ≤ x ∧ x ≤ 122 := by
      unfold letB numB at h
      simp only [decide_eq_true_eq] at h
      omega
    have hy : x = ((UInt8.ofNat x.toNat).toNat : Int) := by
      simp
      omega
    generalize UInt8.ofNat x.toNat = c at *
    subst hy
    simp only [Bool.not_eq_true', decide_eq_false_iff_not, UInt8.le_iff_toNat_le, ← UInt8.toNat_inj] at a1 a2
    have z1 : (48 : UInt8).toNat = 48 := rfl
    have z2 : (57 : UInt8).toNat = 57 := rfl
    have z3 : (97 : UInt8).toNat = 97 := rfl
    have z4 : (122 : UInt8).toNat = 122 := rfl
    have z5 : (65 : UInt8).toNat = 65 := rfl
    have z6 : (90 : UInt8).toNat = 90 := rfl
    have z7 : (95 : UInt8).toNat = 95 := rfl
    rw [z1, z2] at a1
    rw [z3, z4, z5, z6, z7] at a2
    unfold letB numB at h
    simp only [decide_eq_true_eq] at h
    omega
theorem opB_nil : opB [] = sEmpty := by
  rcases opFrom_mem [] opList with h' | ⟨hm, hb⟩
  · exact h'
  · have h1 := (opList_small _ hm).1
    rw [begins_iff] at hb
    have h2 := hb.1
    rw [List.length_nil] at h2
    omega

/-- The token at a place, by what begins there. -/
theorem tok_cases (l : List Int) (p : Nat) :
    (l.drop (skipN l p) = [] ∧ tok l p = ⟨0, skipN l p, skipN l p, sEmpty, 0, false⟩ ∧ sgB l p = sEmpty) ∨
    (0 < nmN (l.drop (skipN l p)) ∧ cN (l.drop (skipN l p)) = 0 ∧ tok l p = ⟨3, skipN l p, skipN l p + nmN (l.drop (skipN l p)), ofBys ((l.drop (skipN l p)).take (nmN (l.drop (skipN l p)))), 0, false⟩ ∧ sgB l p = sEmpty) ∨
    (nmN (l.drop (skipN l p)) = 0 ∧ 0 < cN (l.drop (skipN l p)) ∧ tok l p = ⟨2, skipN l p, skipN l p + cN (l.drop (skipN l p)), sEmpty, cV (l.drop (skipN l p)), cO (l.drop (skipN l p))⟩ ∧ sgB l p = sEmpty) ∨
    (nmN (l.drop (skipN l p)) = 0 ∧ cN (l.drop (skipN l p)) = 0 ∧ ¬ sgB l p = sEmpty ∧ tok l p = ⟨4, skipN l p, skipN l p + (sgB l p).size, sgB l p, 0, false⟩) ∨
    (nmN (l.drop (skipN l p)) = 0 ∧ cN (l.drop (skipN l p)) = 0 ∧ sgB l p = sEmpty ∧ ¬ l.drop (skipN l p) = [] ∧ tok l p = ⟨1, skipN l p, skipN l p, sEmpty, 0, false⟩) := by
  unfold tok sgB
  generalize skipN l p = q
  generalize l.drop q = r
  cases r with
  | nil => exact Or.inl ⟨rfl, rfl, opB_nil⟩
  | cons x m =>
    have h0 : 0 < (x :: m).length := by simp
    have hN : letB x = false → nmN (x :: m) = 0 := fun h => nmN_zero fun y m' e => by
      simp only [List.cons.injEq] at e
      rw [← e.1]; exact h
    have hC : numB x = false → cN (x :: m) = 0 := fun h => cN_zero fun y m' e => by
      simp only [List.cons.injEq] at e
      rw [← e.1]; exact h
    by_cases h1 : 0 < nmN (x :: m)
    · have hl : letB x = true := by
        cases hh : letB x with
        | true => rfl
        | false => rw [hN hh] at h1; omega
      have hn : numB x = false := by
        unfold letB at hl
        unfold numB
        simp only [decide_eq_true_eq, decide_eq_false_iff_not] at hl ⊢
        omega
      exact Or.inr (Or.inl ⟨h1, hC hn, tk_nm h0 h1, opB_word (Or.inl hl)⟩)
    · by_cases h2 : 0 < cN (x :: m)
      · have hn : numB x = true := by
          cases hh : numB x with
          | true => rfl
          | false => rw [hC hh] at h2; omega
        exact Or.inr (Or.inr (Or.inl ⟨by omega, h2, tk_cn h0 h1 h2, opB_word (Or.inr hn)⟩))
      · by_cases h3 : opB (x :: m) = sEmpty
        · exact Or.inr (Or.inr (Or.inr (Or.inr ⟨by omega, by omega, h3, by simp, tk_no h0 h1 h2 h3⟩)))
        · exact Or.inr (Or.inr (Or.inr (Or.inl ⟨by omega, by omega, h3, tk_op h0 h1 h2 h3⟩)))

theorem sg_mem (l : List Int) (p : Nat) : sgB l p = sEmpty ∨ sgB l p ∈ opList := (opFrom_mem _ _).imp id And.left
theorem sg_size (l : List Int) (p : Nat) : (sgB l p).size ≤ 3 := by
  rcases sg_mem l p with h | h
  · rw [h]; decide
  · exact (opList_small _ h).2
theorem sg_stop (l : List Int) (p : Nat) (h : p ≤ l.length) : skipN l p + (sgB l p).size ≤ l.length := by
  have h1 := skipN_le l p h
  have h2 := opB_sz (l.drop (skipN l p))
  rw [List.length_drop] at h2
  unfold sgB
  omega

theorem nm_not_op {s : ByteArray} (h : NmOk s) : s ∉ opList := by
  intro hm
  obtain ⟨h1, h2⟩ := h
  have hb : opB (bys s) = sEmpty := by
    cases hs : bys s with
    | nil => exact opB_nil
    | cons x m =>
      refine opB_word (Or.inl ?_)
      have h3 := (nmN_is (bys s)).2.1 0 (by rw [h2]; exact size_pos h1)
      rw [hs] at h3
      simpa [nameB] using h3
  obtain ⟨i, hi, e⟩ := List.getElem_of_mem hm
  have hi' : i < 35 := hi
  have hd : opList.getD i sEmpty = s := by rw [List.getD, List.getElem?_eq_getElem hi]; exact e
  have ho := opB_op i hi' [] (fun _ _ h => by cases h)
  rw [hd, List.append_nil, hb] at ho
  exact h1 ho.symm
theorem tx_cases {l : List Int} (hb : Byt l) (p : Nat) : (tok l p).text = sgB l p ∨ (sgB l p = sEmpty ∧ NmOk (tok l p).text) := by
  rcases tok_cases l p with ⟨_, e, s⟩ | ⟨h, _, e, s⟩ | ⟨_, _, e, s⟩ | ⟨_, _, s, e⟩ | ⟨_, _, s, _, e⟩
  · left; rw [e, s]
  · right
    refine ⟨s, ?_⟩
    rw [e]
    exact nmOk_take _ (bytD hb _) h
  · left; rw [e, s]
  · left; rw [e]
  · left; rw [e, s]
theorem rowFrom_no {s : ByteArray} (h : s ∉ opList) : ∀ (rows : List (List ByteArray)) (k : Nat), (∀ r ∈ rows, ∀ x ∈ r, x ∈ opList) → rowFrom s rows k = 0
  | [], _, _ => rfl
  | r :: rs, k, hr => by
    have : r.any (fun x => decide (x = s)) = false := by
      rw [Bool.eq_false_iff]
      intro ha
      rw [List.any_eq_true] at ha
      obtain ⟨x, hx, e⟩ := ha
      have e' : x = s := of_decide_eq_true e
      exact h (e' ▸ hr r (by simp) x hx)
    unfold rowFrom
    rw [this]
    exact rowFrom_no h rs (k + 1) fun r' hr' => hr r' (by simp [hr'])
theorem opRows_ex : ∀ r ∈ opRows, ∀ x ∈ r, ∃ y ∈ opList, y = x := by decide
theorem opRows_mem : ∀ r ∈ opRows, ∀ x ∈ r, x ∈ opList := fun r hr x hx => mem_ex (opRows_ex r hr x hx)
theorem empty_no : sEmpty ∉ opList := fun h => absurd (opList_small _ h).1 (by decide)
theorem strN_no {s : ByteArray} (h : s ∉ opList) : strN s = 0 := rowFrom_no h opRows 0 opRows_mem
theorem tx_str {l : List Int} (hb : Byt l) (p : Nat) : strN (tok l p).text = strN (sgB l p) := by
  rcases tx_cases hb p with e | ⟨e, n⟩
  · rw [e]
  · rw [e, strN_no (nm_not_op n)]; decide
theorem tx_asg {l : List Int} (hb : Byt l) (p : Nat) : asgB (tok l p).text = asgB (sgB l p) := by
  rcases tx_cases hb p with e | ⟨e, n⟩
  · rw [e]
  · rw [e, nm_noAsg n]; decide
theorem tx_eq {l : List Int} (hb : Byt l) (p : Nat) {x : ByteArray} (hx : x ∈ opList) : (tok l p).text = x ↔ sgB l p = x := by
  rcases tx_cases hb p with e | ⟨e, n⟩
  · rw [e]
  · constructor
    · intro h; rw [h] at n; exact absurd hx (nm_not_op n)
    · intro h; rw [e] at h; rw [← h] at hx; exact absurd hx empty_no
theorem unB_in {s : ByteArray} (h : ¬ unB s = sEmpty) : s ∈ opList := by
  unfold unB at h
  split at h
  · rename_i c
    rcases c with rfl | rfl <;> exact mem_ex (by decide)
  · split at h
    · rename_i d
      rcases d with rfl | rfl <;> exact mem_ex (by decide)
    · exact absurd rfl h
theorem tx_un {l : List Int} (hb : Byt l) (p : Nat) : unB (tok l p).text = unB (sgB l p) := by
  rcases tx_cases hb p with e | ⟨e, n⟩
  · rw [e]
  · rw [e]
    have h1 : unB (tok l p).text = sEmpty := Classical.byContradiction fun h => nm_not_op n (unB_in h)
    rw [h1]; decide
/-- The code of what may not stand at a place. -/
theorem un_code (l : List Int) (p : Nat) : (tok l p).code = if 0 < cN (l.drop (skipN l p)) ∧ cO (l.drop (skipN l p)) = true then 6 else 3 := by
  rcases tok_cases l p with ⟨h, e, s⟩ | ⟨h, h2, e, s⟩ | ⟨_, h, e, s⟩ | ⟨_, h, s, e⟩ | ⟨_, h, s, _, e⟩
  · rw [e, h, if_neg (by rw [cN_zero (by intro x m e; cases e)]; omega)]; rfl
  · rw [e, if_neg (by omega)]; rfl
  · rw [e]
    unfold Tk.code
    cases hc : cO (l.drop (skipN l p)) <;> simp [h]
  · rw [e, if_neg (by omega)]; rfl
  · rw [e, if_neg (by omega)]; rfl
theorem tk_start (l : List Int) (p : Nat) : (tok l p).start = skipN l p := by unfold tok; rw [tokL_start]
end Go.Proofs.YtacfglopionkfaaGreatDoor
