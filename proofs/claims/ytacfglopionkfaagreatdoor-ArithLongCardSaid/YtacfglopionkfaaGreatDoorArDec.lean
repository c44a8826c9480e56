/- Plain facts: decimals and operators as tokens. No program. -/
import Derived.Test.YtacfglopionkfaaGreatDoorKPa
import Derived.Lib.ItoaNum
namespace Go.Proofs.YtacfglopionkfaaGreatDoor
open Go.RowKit

theorem dgt_big {x : Int} (h : numB x = false) : 10 ≤ dgt x := by
  unfold numB at h
  simp only [decide_eq_false_iff_not] at h
  unfold dgt
  rw [if_neg h]
  split
  · omega
  · split <;> omega
theorem nmN_zero {r : List Int} (h : ∀ x m, r = x :: m → letB x = false) : nmN r = 0 :=
  (stopN_is _ _).same ⟨Nat.zero_le _, fun j hj => absurd hj (by omega), fun hl => by
    cases r with
    | nil => simp at hl
    | cons x m => simp [nameB, h x m rfl]⟩
theorem cN_zero {r : List Int} (h : ∀ x m, r = x :: m → numB x = false) : cN r = 0 := by
  cases r with
  | nil => simp [cN, hexB, cB, gN, rN, pre]
  | cons x m =>
    have hx := h x m rfl
    have hd := dgt_big hx
    have h48 : x ≠ 48 := by rintro rfl; simp [numB] at hx
    have e1 : hexB (x :: m) = false := by simp [hexB, h48]
    have e2 : cB (x :: m) = 10 := by simp [cB, h48]
    unfold cN
    rw [e1, e2]
    simp only [Bool.false_eq_true, if_false]
    unfold gN
    rw [if_pos (by omega)]
    unfold rN pre
    have : dig? 10 x = false := by unfold dig?; simpa using hd
    rw [List.takeWhile_cons_of_neg (by rw [this]; decide)]
    rfl

/-! operators -/
def opTail : List UInt8 := [61, 60, 62, 38, 124]
/-- What may stand behind an operator without being a part of it. -/
def OpEnds (r : List Int) : Prop := ∀ x m, r = x :: m → 0 ≤ x ∧ x ≤ 255 ∧ x ≠ 61 ∧ x ≠ 60 ∧ x ≠ 62 ∧ x ≠ 38 ∧ x ≠ 124
theorem ops_tail : ∀ s ∈ opList, ∀ o ∈ opList, o.size < s.size → s.data.toList.take o.size = o.data.toList → (s.data.toList.getD o.size 0) ∈ opTail := by decide
theorem ops_apart : ∀ i : Fin 35, ∀ j : Fin 35, j.val < i.val → (opList.getD j.val sEmpty).size ≤ (opList.getD i.val sEmpty).size → (opList.getD i.val sEmpty).data.toList.take (opList.getD j.val sEmpty).size ≠ (opList.getD j.val sEmpty).data.toList := by decide

theorem bys_map (s : ByteArray) : (bys s).map (fun n => UInt8.ofNat n.toNat) = s.data.toList := by
  have := congrArg (fun t : ByteArray => t.data.toList) (ofBys_bys s)
  exact this
theorem begins_iff (l : List Int) (s : ByteArray) : begins l s = true ↔ s.size ≤ l.length ∧ (l.take s.size).map (fun n => UInt8.ofNat n.toNat) = s.data.toList := by
  unfold begins
  simp only [Bool.and_eq_true, decide_eq_true_eq]
  refine and_congr_right fun _ => ⟨fun h => ?_, fun h => ?_⟩
  · exact congrArg (fun t : ByteArray => t.data.toList) h
  · obtain ⟨d⟩ := s
    unfold ofBys
    congr 1
    apply Array.toList_inj.1
    exact h

theorem begins_self (o : ByteArray) (r : List Int) : begins (bys o ++ r) o = true := by
  rw [begins_iff]
  have hl : (bys o).length = o.size := bys_length o
  refine ⟨by rw [List.length_append]; omega, ?_⟩
  rw [← hl, List.take_left, bys_map]
theorem begins_not (i : Nat) (hi : i < 35) (j : Nat) (hj : j < i) (r : List Int) (hr : OpEnds r) : begins (bys (opList.getD i sEmpty) ++ r) (opList.getD j sEmpty) = false := by
  cases hb : begins (bys (opList.getD i sEmpty) ++ r) (opList.getD j sEmpty) with
  | false => rfl
  | true =>
    exfalso
    rw [begins_iff] at hb
    obtain ⟨h1, h2⟩ := hb
    have hl : (bys (opList.getD i sEmpty)).length = (opList.getD i sEmpty).size := bys_length _
    have hmi : opList.getD i sEmpty ∈ opList := by
      have : i < opList.length := hi
      rw [List.getD, List.getElem?_eq_getElem this]
      exact List.getElem_mem _
    have hmj : opList.getD j sEmpty ∈ opList := by
      have : j < opList.length := by show j < 35; omega
      rw [List.getD, List.getElem?_eq_getElem this]
      exact List.getElem_mem _
    have ha := ops_apart ⟨i, hi⟩ ⟨j, by omega⟩ hj
    simp only [] at ha
    have ht := ops_tail _ hmj _ hmi
    generalize opList.getD i sEmpty = o at *
    generalize opList.getD j sEmpty = s at *
    by_cases hs : s.size ≤ o.size
    · rw [List.take_append_of_le_length (by omega), List.map_take, bys_map] at h2
      exact ha hs h2
    · rw [List.take_append, List.map_append, List.take_of_length_le (by omega), bys_map, hl] at h2
      cases r with
      | nil =>
        rw [List.length_append, List.length_nil] at h1
        omega
      | cons x m =>
        obtain ⟨k, hk⟩ : ∃ k, s.size - o.size = k + 1 := ⟨s.size - o.size - 1, by omega⟩
        rw [hk, List.take_succ_cons, List.map_cons] at h2
        have hol : o.data.toList.length = o.size := Array.length_toList
        have e1 : s.data.toList.take o.size = o.data.toList := by rw [← h2, ← hol, List.take_left]
        have e2 : s.data.toList.getD o.size 0 = UInt8.ofNat x.toNat := by
          rw [← h2, ← hol]
          simp [List.getD]
        have hm := ht (by omega) e1
        rw [e2] at hm
        obtain ⟨x0, x1, y1, y2, y3, y4, y5⟩ := hr x m rfl
        have hx : (UInt8.ofNat x.toNat).toNat = x.toNat := by simp; omega
        unfold opTail at hm
        simp only [List.mem_cons, List.not_mem_nil, or_false] at hm
        rcases hm with h | h | h | h | h
        all_goals
          rw [h] at hx
          have hx : _ = x.toNat := hx
          simp at hx
          omega

theorem opFrom_at (l : List Int) (i : Nat) : ∀ L : List ByteArray, (∀ j, j < i → begins l (L.getD j sEmpty) = false) → i < L.length → begins l (L.getD i sEmpty) = true → opFrom l L = L.getD i sEmpty := by
  induction i with
  | zero =>
    intro L _ hl hb
    cases L with
    | nil => simp at hl
    | cons s L =>
      simp only [List.getD_cons_zero] at hb ⊢
      unfold opFrom
      rw [if_pos hb]
  | succ i ih =>
    intro L hj hl hb
    cases L with
    | nil => simp at hl
    | cons s L =>
      have h0 := hj 0 (by omega)
      simp only [List.getD_cons_zero] at h0
      unfold opFrom
      rw [if_neg (by rw [h0]; decide)]
      simp only [List.getD_cons_succ] at hb ⊢
      exact ih L (fun j h => by have := hj (j + 1) (by omega); simpa using this) (by simpa using hl) hb
theorem opB_op (i : Nat) (hi : i < 35) (r : List Int) (hr : OpEnds r) : opB (bys (opList.getD i sEmpty) ++ r) = opList.getD i sEmpty :=
  opFrom_at _ i opList (fun j hj => begins_not i hi j hj r hr) hi (begins_self _ r)
theorem ops_head : ∀ s ∈ opList, 0 < s.size ∧ (s.data.toList.all fun c => !(decide (48 ≤ c ∧ c ≤ 57)) && !(decide ((97 ≤ c ∧ c ≤ 122) ∨ (65 ≤ c ∧ c ≤ 90) ∨ c = 95))) = true := by decide

end Go.Proofs.YtacfglopionkfaaGreatDoor
