/- KDl: several texts in one (kmerge.py). -/
import Derived.Test.YthpmkpnndbjflaaGreatDoorKPb
import Derived.Lib.ItoaNum
/- Plain facts: decimals and operators as tokens. No program. -/
namespace Go.Proofs.YthpmkpnndbjflaaGreatDoor
open Go.RowKit

theorem dgt_big {x : Int} (h : numB x = false) : 10 ≤ dgt x := by
  unfold numB at h
  simp only [decide_eq_false_iff_not] at h
  unfold dgt
  rw [if_neg h]
  split
  · omega
  · split <;> omega
theorem nmN_zero {r : List Int} (h : ∀ x m, r = x :: m → letB x = false) : nmN r = 0 :=
  (stopN_is _ _).same ⟨Nat.zero_le _, fun j hj => absurd hj (by omega), fun hl => by
    cases r with
    | nil => simp at hl
    | cons x m => simp [nameB, h x m rfl]⟩
theorem cN_zero {r : List Int} (h : ∀ x m, r = x :: m → numB x = false) : cN r = 0 := by
  cases r with
  | nil => simp [cN, hexB, cB, gN, rN, pre]
  | cons x m =>
    have hx := h x m rfl
    have hd := dgt_big hx
    have h48 : x ≠ 48 := by rintro rfl; simp [numB] at hx
    have e1 : hexB (x :: m) = false := by simp [hexB, h48]
    have e2 : cB (x :: m) = 10 := by simp [cB, h48]
    unfold cN
    rw [e1, e2]
    simp only [Bool.false_eq_true, if_false]
    unfold gN
    rw [if_pos (by omega)]
    unfold rN pre
    have : dig? 10 x = false := by unfold dig?; simpa using hd
    rw [List.takeWhile_cons_of_neg (by rw [this]; decide)]
    rfl

/-! operators -/
def opTail : List UInt8 := [61, 60, 62, 38, 124]
/-- What may stand behind an operator without being a part of it. -/
def OpEnds (r : List Int) : Prop := ∀ x m, r = x :: m → 0 ≤ x ∧ x ≤ 255 ∧ x ≠ 61 ∧ x ≠ 60 ∧ x ≠ 62 ∧ x ≠ 38 ∧ x ≠ 124
theorem ops_tail : ∀ s ∈ opList, ∀ o ∈ opList, o.size < s.size → s.data.toList.take o.size = o.data.toList → (s.data.toList.getD o.size 0) ∈ opTail := by decide
theorem ops_apart : ∀ i : Fin 35, ∀ j : Fin 35, j.val < i.val → (opList.getD j.val sEmpty).size ≤ (opList.getD i.val sEmpty).size → (opList.getD i.val sEmpty).data.toList.take (opList.getD j.val sEmpty).size ≠ (opList.getD j.val sEmpty).data.toList := by decide

theorem bys_map (s : ByteArray) : (bys s).map (fun n => UInt8.ofNat n.toNat) = s.data.toList := by
  have := congrArg (fun t : ByteArray => t.data.toList) (ofBys_bys s)
  exact this
theorem begins_iff (l : List Int) (s : ByteArray) : begins l s = true ↔ s.size ≤ l.length ∧ (l.take s.size).map (fun n => UInt8.ofNat n.toNat) = s.data.toList := by
  unfold begins
  simp only [Bool.and_eq_true, decide_eq_true_eq]
  refine and_congr_right fun _ => ⟨fun h => ?_, fun h => ?_⟩
  · exact congrArg (fun t : ByteArray => t.data.toList) h
  · obtain ⟨d⟩ := s
    unfold ofBys
    congr 1
    apply Array.toList_inj.1
    exact h

theorem begins_self (o : ByteArray) (r : List Int) : begins (bys o ++ r) o = true := by
  rw [begins_iff]
  have hl : (bys o).length = o.size := bys_length o
  refine ⟨by rw [List.length_append]; omega, ?_⟩
  rw [← hl, List.take_left, bys_map]
theorem begins_not (i : Nat) (hi : i < 35) (j : Nat) (hj : j < i) (r : List Int) (hr : OpEnds r) : begins (bys (opList.getD i sEmpty) ++ r) (opList.getD j sEmpty) = false := by
  cases hb : begins (bys (opList.getD i sEmpty) ++ r) (opList.getD j sEmpty) with
  | false => rfl
  | true =>
    exfalso
    rw [begins_iff] at hb
    obtain ⟨h1, h2⟩ := hb
    have hl : (bys (opList.getD i sEmpty)).length = (opList.getD i sEmpty).size := bys_length _
    have hmi : opList.getD i sEmpty ∈ opList := by
      have : i < opList.length := hi
      rw [List.getD, List.getElem?_eq_getElem this]
      exact List.getElem_mem _
    have hmj : opList.getD j sEmpty ∈ opList := by
      have : j < opList.length := by show j < 35; omega
      rw [List.getD, List.getElem?_eq_getElem this]
      exact List.getElem_mem _
    have ha := ops_apart ⟨i, hi⟩ ⟨j, by omega⟩ hj
    simp only [] at ha
    have ht := ops_tail _ hmj _ hmi
    generalize opList.getD i sEmpty = o at *
    generalize opList.getD j sEmpty = s at *
    by_cases hs : s.size ≤ o.size
    · rw [List.take_append_of_le_length (by omega), List.map_take, bys_map] at h2
      exact ha hs h2
    · rw [List.take_append, List.map_append, List.take_of_length_le (by omega), bys_map, hl] at h2
      cases r with
      | nil =>
        rw [List.length_append, List.length_nil] at h1
        omega
      | cons x m =>
        obtain ⟨k, hk⟩ : ∃ k, s.size - o.size = k + 1 := ⟨s.size - o.size - 1, by omega⟩
        rw [hk, List.take_succ_cons, List.map_cons] at h2
        have hol : o.data.toList.length = o.size := Array.length_toList
        have e1 : s.data.toList.take o.size = o.data.toList := by rw [← h2, ← hol, List.take_left]
        have e2 : s.data.toList.getD o.size 0 = UInt8.ofNat x.toNat := by
          rw [← h2, ← hol]
          simp [List.getD]
        have hm := ht (by omega) e1
        rw [e2] at hm
        obtain ⟨x0, x1, y1, y2, y3, y4, y5⟩ := hr x m rfl
        have hx : (UInt8.ofNat x.toNat).toNat = x.toNat := by simp; omega
        unfold opTail at hm
        simp only [List.mem_cons, List.not_mem_nil, or_false] at hm
        rcases hm with h | h | h | h | h
        all_goals
          rw [h] at hx
          have hx : _ = x.toNat := hx
          simp at hx
          omega

theorem opFrom_at (l : List Int) (i : Nat) : ∀ L : List ByteArray, (∀ j, j < i → begins l (L.getD j sEmpty) = false) → i < L.length → begins l (L.getD i sEmpty) = true → opFrom l L = L.getD i sEmpty := by
  induction i with
  | zero =>
    intro L _ hl hb
    cases L with
    | nil => simp at hl
    | cons s L =>
      simp only [List.getD_cons_zero] at hb ⊢
      unfold opFrom
      rw [if_pos hb]
  | succ i ih =>
    intro L hj hl hb
    cases L with
    | nil => simp at hl
    | cons s L =>
      have h0 := hj 0 (by omega)
      simp only [List.getD_cons_zero] at h0
      unfold opFrom
      rw [if_neg (by rw [h0]; decide)]
      simp only [List.getD_cons_succ] at hb ⊢
      exact ih L (fun j h => by have := hj (j + 1) (by omega); simpa using this) (by simpa using hl) hb
theorem opB_op (i : Nat) (hi : i < 35) (r : List Int) (hr : OpEnds r) : opB (bys (opList.getD i sEmpty) ++ r) = opList.getD i sEmpty :=
  opFrom_at _ i opList (fun j hj => begins_not i hi j hj r hr) hi (begins_self _ r)
theorem ops_head : ∀ s ∈ opList, 0 < s.size ∧ (s.data.toList.all fun c => !(decide (48 ≤ c ∧ c ≤ 57)) && !(decide ((97 ≤ c ∧ c ≤ 122) ∨ (65 ≤ c ∧ c ≤ 90) ∨ c = 95))) = true := by decide

theorem tokL_op (i : Nat) (hi : i < 35) (r : List Int) (hr : OpEnds r) (q : Nat) : tokL (bys (opList.getD i sEmpty) ++ r) q = ⟨4, q, q + (opList.getD i sEmpty).size, opList.getD i sEmpty, 0, false⟩ := by
  have hb := opB_op i hi r hr
  have hm : opList.getD i sEmpty ∈ opList := by
    have : i < opList.length := hi
    rw [List.getD, List.getElem?_eq_getElem this]
    exact List.getElem_mem _
  obtain ⟨hs, hall⟩ := ops_head _ hm
  generalize opList.getD i sEmpty = o at *
  have hl : (bys o).length = o.size := bys_length _
  have h0 : 0 < (bys o ++ r).length := by rw [List.length_append]; omega
  have hne : ¬ o = sEmpty := by rintro rfl; exact absurd hs (by decide)
  have hfirst : ∀ x m, bys o ++ r = x :: m → numB x = false ∧ letB x = false := by
    intro x m e
    cases hc : bys o with
    | nil => rw [hc] at hl; simp at hl; omega
    | cons y ys =>
      rw [hc, List.cons_append] at e
      simp only [List.cons.injEq] at e
      obtain ⟨rfl, _⟩ := e
      have hd : o.data.toList = UInt8.ofNat y.toNat :: (ys.map fun n => UInt8.ofNat n.toNat) := by rw [← bys_map, hc]; rfl
      have hy : y = ((UInt8.ofNat y.toNat).toNat : Int) := by
        have hbt := bys_byt o 0
        rw [hc] at hbt
        simp only [List.getD_cons_zero] at hbt
        simp
        omega
      rw [hd] at hall
      simp only [List.all_cons, Bool.and_eq_true] at hall
      obtain ⟨⟨a1, a2⟩, _⟩ := hall
      generalize UInt8.ofNat y.toNat = c at *
      subst hy
      simp only [Bool.not_eq_true', decide_eq_false_iff_not, UInt8.le_iff_toNat_le, ← UInt8.toNat_inj] at a1 a2
      have z1 : (48 : UInt8).toNat = 48 := rfl
      have z2 : (57 : UInt8).toNat = 57 := rfl
      have z3 : (97 : UInt8).toNat = 97 := rfl
      have z4 : (122 : UInt8).toNat = 122 := rfl
      have z5 : (65 : UInt8).toNat = 65 := rfl
      have z6 : (90 : UInt8).toNat = 90 := rfl
      have z7 : (95 : UInt8).toNat = 95 := rfl
      rw [z1, z2] at a1
      rw [z3, z4, z5, z6, z7] at a2
      unfold numB letB
      simp only [decide_eq_false_iff_not]
      refine ⟨by omega, by omega⟩
  rw [tk_op h0 (by rw [nmN_zero fun x m e => (hfirst x m e).2]; omega) (by rw [cN_zero fun x m e => (hfirst x m e).1]; omega) (by rw [hb]; exact hne), hb]
end Go.Proofs.YthpmkpnndbjflaaGreatDoor
/- Plain facts: two operators between three decimals, read. No program. -/
namespace Go.Proofs.YthpmkpnndbjflaaGreatDoor
open Go.RowKit

theorem loop_stop {l : List Int} {n k : Nat} {left : Tr} {t : Tk} (h : ¬ k ≤ strN t.text) : rd l (n + 1) (.loop k left) t = some (.ok left t) := by
  simp only [rd]
  rw [if_neg h]
theorem loop_go {l : List Int} {n k : Nat} {left b : Tr} {t t2 : Tk} (h : k ≤ strN t.text) (hb : rd l n (.bin (strN t.text + 1)) (tok l t.stop) = some (.ok b t2)) : rd l (n + 1) (.loop k left) t = rd l n (.loop k (.bin t.text t.start left b)) t2 := by
  simp only [rd]
  rw [if_pos h, hb]
theorem bin_of {l : List Int} {n k : Nat} {a : Tr} {t t1 : Tk} (h : rd l n .opd t = some (.ok a t1)) : rd l (n + 1) (.bin k) t = rd l n (.loop k a) t1 := by
  simp only [rd]
  rw [h]
theorem cond_of {l : List Int} {n : Nat} {a : Tr} {t t1 : Tk} (h : rd l n (.bin 1) t = some (.ok a t1)) (hq : ¬ t1.text = sQue) : rd l (n + 1) .cond t = some (.ok a t1) := by
  simp only [rd]
  rw [h]
  simp only []
  rw [if_neg hq]
/-- The token that stands just there. -/
theorem tok_here (y r : List Int) (h : ∀ x m, r = x :: m → whiteB x = false) : tok (y ++ r) y.length = tokL r y.length := by
  have e : skipN (y ++ r) y.length = y.length := by
    unfold skipN
    rw [List.drop_left]
    cases r with
    | nil => simp [pre]
    | cons x m => simp [pre, h x m rfl]
  unfold tok
  rw [e, List.drop_left]
theorem op_first (i : Nat) (hi : i < 35) : ∃ x m, bys (opList.getD i sEmpty) = x :: m ∧ numB x = false ∧ letB x = false ∧ whiteB x = false := by
  have h : ∀ i : Fin 35, (match bys (opList.getD i.val sEmpty) with | [] => false | x :: _ => !(numB x) && !(letB x) && !(whiteB x)) = true := by decide
  have hh := h ⟨i, hi⟩
  simp only [] at hh
  generalize bys (opList.getD i sEmpty) = b at *
  match b, hh with
  | x :: m, hh =>
    simp only [Bool.and_eq_true, Bool.not_eq_true'] at hh
    exact ⟨x, m, rfl, hh.1.1, hh.1.2, hh.2⟩
theorem op_solid (i : Nat) (hi : i < 35) (r : List Int) : ∀ x m, bys (opList.getD i sEmpty) ++ r = x :: m → whiteB x = false := by
  obtain ⟨x, m, e, _, _, h3⟩ := op_first i hi
  rw [e]
  intro x' m' e'
  simp only [List.cons_append, List.cons.injEq] at e'
  rw [← e'.1]
  exact h3
theorem tok_last (l : List Int) : tok l l.length = ⟨0, l.length, l.length, sEmpty, 0, false⟩ := by
  have e : skipN l l.length = l.length := by unfold skipN; rw [List.drop_length]; rfl
  unfold tok
  rw [e, List.drop_length]
  rfl

end Go.Proofs.YthpmkpnndbjflaaGreatDoor
