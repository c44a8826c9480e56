/- What is quoted, read again, is itself (pure). -/
import Derived.Test.YtlkcopjjeknbkaaGreatDoorKPu
namespace Go.Proofs.YtlkcopjjeknbkaaGreatDoor
open Go.RowKit

def quo1 (ext : Bool) (c : Int) : List Int := if c = 10 then [92, 110] else if mayQ c ext = true then [92, c] else [c]
def quoR (ext : Bool) (l : List Int) : List Int := (l.map (quo1 ext)).flatten
theorem quoR_cons (ext : Bool) (c : Int) (l : List Int) : quoR ext (c :: l) = quo1 ext c ++ quoR ext l := rfl
theorem quo1_pos (ext : Bool) (c : Int) : 1 ≤ (quo1 ext c).length := by unfold quo1; (repeat' split) <;> simp
theorem mayQ_all {c : Int} {ext : Bool} (h : mayQ c ext = false) : c ≠ 92 ∧ c ≠ 46 ∧ c ≠ 91 ∧ c ≠ 94 ∧ c ≠ 36 ∧ c ≠ 42 ∧ (ext = true → c ≠ 40 ∧ c ≠ 41 ∧ c ≠ 123 ∧ c ≠ 43 ∧ c ≠ 63 ∧ c ≠ 124) := by
  unfold mayQ at h
  split at h
  · rename_i hc
    subst h
    refine ⟨?_, ?_, ?_, ?_, ?_, ?_, fun h => by cases h⟩ <;> omega
  · rename_i hc
    simp only [decide_eq_false_iff_not] at h
    refine ⟨?_, ?_, ?_, ?_, ?_, ?_, fun _ => ⟨?_, ?_, ?_, ?_, ?_, ?_⟩⟩ <;> omega
theorem getD_drop (l : List Int) (k i : Nat) : l.getD (k + i) 0 = (l.drop k).getD i 0 := by simp [List.getD, List.getElem?_drop]
/-- The sign where a quoted byte stands. -/
theorem sgT_quo {l : List Int} {k : Nat} {ext : Bool} {c : Int} {r : List Int} (h : l.drop k = quo1 ext c ++ r) : sgT l k = quo1 ext c := by
  have hp := quo1_pos ext c
  have hl := congrArg List.length h
  rw [List.length_drop, List.length_append] at hl
  have h0 : l.getD k 0 = (l.drop k).getD 0 0 := by rw [← getD_drop]; rfl
  have h1 : l.getD (k + 1) 0 = (l.drop k).getD 1 0 := getD_drop l k 1
  rw [h] at h0 h1
  unfold sgT
  rw [if_pos (by omega), h0, h1]
  unfold quo1 at *
  by_cases hc : c = 10
  · rw [if_pos hc] at *
    simp at hl ⊢
    omega
  · rw [if_neg hc] at *
    by_cases hm : mayQ c ext = true
    · rw [if_pos hm] at *
      simp at hl ⊢
      omega
    · rw [if_neg hm] at *
      have := (mayQ_all (by simpa using hm)).1
      simp [this]
theorem role_quo (ext : Bool) (c : Int) : roleC (quo1 ext c) ext = 0 := by
  unfold quo1
  by_cases hc : c = 10
  · rw [if_pos hc]
    cases ext <;> decide
  · rw [if_neg hc]
    by_cases hm : mayQ c ext = true
    · rw [if_pos hm]
      unfold roleC
      rw [if_neg (by simp)]
      cases ext with
      | true => split <;> simp
      | false =>
        have hno : ¬ (c = 40 ∨ c = 41 ∨ c = 123) := fun h => by
          unfold mayQ at hm
          rw [if_pos (by omega)] at hm
          cases hm
        rw [if_neg (by simp; omega)]
        simp
    · rw [if_neg hm]
      have a := mayQ_all (by simpa using hm)
      unfold roleC
      rw [if_neg (by simp), if_neg (by simp)]
      cases ext with
      | true =>
        have b := a.2.2.2.2.2.2 rfl
        rw [if_neg (by simp; omega), if_neg (by simp; omega)]
      | false =>
        split
        · rfl
        · rw [if_neg (by simp; omega)]
theorem lit_quo (ext : Bool) (c : Int) : litR (quo1 ext c) ext = .byt c := by
  unfold quo1
  by_cases hc : c = 10
  · rw [if_pos hc, hc]
    rfl
  · rw [if_neg hc]
    by_cases hm : mayQ c ext = true
    · rw [if_pos hm]
      unfold litR
      have h110 : c ≠ 110 := fun h => by rw [h] at hm; cases ext <;> cases hm
      have h125 : ¬ (c = 125 ∧ ext = false) := fun h => by rw [h.1, h.2] at hm; cases hm
      simp [h110, hm]
      intro h1
      cases ext with
      | true => rfl
      | false => exact absurd ⟨h1, rfl⟩ h125
    · rw [if_neg hm]
      have a := mayQ_all (by simpa using hm)
      unfold litR
      simp [a.1]
theorem sg_quo (cf : ByteArray → (Nat → Bool) × Bool) {l : List Int} {k : Nat} {ext : Bool} {c : Int} {r : List Int} (h : l.drop k = quo1 ext c ++ r) : sg cf l ext k = ⟨0, quo1 ext c, setN (mem [c]), 0, 0, none, k + (quo1 ext c).length⟩ := by
  unfold sg sgR
  rw [sgT_quo h, role_quo, if_pos rfl, lit_quo]
theorem byt_quo (ext : Bool) (c : Int) (s : Sg) (h : s.tx = quo1 ext c) (nk : Nat) (items : List Nd) : isByt ext s nk items = false := by
  unfold isByt
  cases ext with
  | true => rfl
  | false =>
    rw [if_neg (by simp), h]
    unfold quo1
    by_cases hc : c = 10
    · rw [if_pos hc]; simp
    · rw [if_neg hc]
      by_cases hm : mayQ c false = true
      · rw [if_pos hm]; simp
      · rw [if_neg hm]
        have a := mayQ_all (by simpa using hm)
        simp [a.2.2.2.1, a.2.2.2.2.1, a.2.2.2.2.2.1]
theorem rdR_quo (cf : ByteArray → (Nat → Bool) × Bool) (l : List Int) (ext : Bool) (g o : Nat) : ∀ (s : List Int) (n : Nat) (items : List Nd) (k : Nat), l.drop k = quoR ext s → k ≤ l.length → s.length + 1 ≤ n → (items ≠ [] ∨ s ≠ []) → rdR cf l ext n (.br items) k g o = some (.ok (joinN 4 (items ++ s.map fun c => setN (mem [c]))) l.length g)
  | [], n, items, k, h, hk, hn, hne => by
    obtain ⟨m, rfl⟩ : ∃ m, n = m + 1 := ⟨n - 1, by simp at hn; omega⟩
    have hl := congrArg List.length h
    rw [List.length_drop] at hl
    have hke : k = l.length := by simp [quoR] at hl; omega
    subst hke
    rw [rdR_br, sg_end cf l ext l.length (by omega), if_pos (by rfl), if_neg (by simpa using hne)]
    simp
  | c :: s, n, items, k, h, hk, hn, _ => by
    obtain ⟨m, rfl⟩ : ∃ m, n = m + 1 := ⟨n - 1, by simp at hn; omega⟩
    rw [quoR_cons] at h
    have hs := sg_quo cf h
    have hl := congrArg List.length h
    rw [List.length_drop, List.length_append] at hl
    have hp := quo1_pos ext c
    have hd : l.drop (k + (quo1 ext c).length) = quoR ext s := by
      rw [← List.drop_drop, h, List.drop_left]
    have ih := rdR_quo cf l ext g o s m (items ++ [setN (mem [c])]) (k + (quo1 ext c).length) hd (by omega) (by simp at hn; omega) (Or.inl (by simp))
    rw [rdR_br, byt_quo ext c _ (by rw [hs]), hs]
    rw [if_neg (by simp [endsB]), if_neg (by simp), if_neg (by simp), if_neg (by simp)]
    dsimp only
    rw [ih, List.map_cons, List.append_assoc]
    rfl
theorem parse_quo (cf : ByteArray → (Nat → Bool) × Bool) (ext : Bool) (s : List Int) (hs : s ≠ []) (hl : (quoR ext s).length ≤ 256) : ∃ k, parseN cf (quoR ext s) ext (fuelR (quoR ext s)) = some (.ok (joinN 4 (s.map fun c => setN (mem [c]))) k 0) := by
  have hlen : s.length ≤ (quoR ext s).length := by
    clear hs hl
    induction s with
    | nil => simp
    | cons c s ih =>
      rw [quoR_cons, List.length_append, List.length_cons]
      have := quo1_pos ext c
      omega
  have h := rdR_quo cf (quoR ext s) ext 0 0 s (2 * (quoR ext s).length + 1) [] 0 (by simp) (Nat.zero_le _) (by omega) (Or.inr hs)
  refine ⟨(quoR ext s).length, ?_⟩
  unfold parseN fuelR
  rw [if_neg (by omega), rdR_re, h]
  dsimp only
  rw [sg_end cf _ ext _ (Nat.lt_irrefl _), if_neg (by decide)]
  dsimp only
  rw [sg_end cf _ ext _ (Nat.lt_irrefl _), if_pos rfl]
  rfl
end Go.Proofs.YtlkcopjjeknbkaaGreatDoor
