/- Plain facts: the parentheses of a text. No program. -/
import Derived.Test.YtlmoeldillpamaaGreatDoorArSz
namespace Go.Proofs.YtlmoeldillpamaaGreatDoor
open Go.RowKit

/-- Each parenthesis that opens shuts later on. -/
def Bal (xs : List UInt8) : Prop := xs.count 40 = xs.count 41 ∧ ∀ k, (xs.take k).count 41 ≤ (xs.take k).count 40
def NoPar (xs : List UInt8) : Prop := ∀ c ∈ xs, c ≠ 40 ∧ c ≠ 41
theorem NoPar.count {xs : List UInt8} (h : NoPar xs) : xs.count 40 = 0 ∧ xs.count 41 = 0 :=
  ⟨List.count_eq_zero.mpr fun hc => (h _ hc).1 rfl, List.count_eq_zero.mpr fun hc => (h _ hc).2 rfl⟩
theorem NoPar.bal {xs : List UInt8} (h : NoPar xs) : Bal xs := by
  refine ⟨by rw [h.count.1, h.count.2], fun k => ?_⟩
  have hk : NoPar (xs.take k) := fun c hc => h c (List.mem_of_mem_take hc)
  rw [hk.count.1, hk.count.2]
  exact Nat.le_refl _
theorem Bal.append {xs ys : List UInt8} (h : Bal xs) (h' : Bal ys) : Bal (xs ++ ys) := by
  refine ⟨by rw [List.count_append, List.count_append, h.1, h'.1], fun k => ?_⟩
  rw [List.take_append, List.count_append, List.count_append]
  have := h.2 k
  have := h'.2 (k - xs.length)
  omega
theorem Bal.paren {xs : List UInt8} (h : Bal xs) : Bal (40 :: (xs ++ [41])) := by
  refine ⟨by simp [List.count_append, h.1], fun k => ?_⟩
  match k with
  | 0 => simp
  | k + 1 =>
    rw [List.take_succ_cons, List.take_append, List.count_cons, List.count_cons, List.count_append, List.count_append]
    have h1 := h.2 k
    have h2 : (List.take (k - xs.length) [(41 : UInt8)]).count 41 ≤ 1 := Nat.le_trans (List.count_le_length) (by simp; omega)
    have h3 : (List.take (k - xs.length) [(41 : UInt8)]).count 40 = 0 := List.count_eq_zero.mpr fun hc => by
      have := List.mem_of_mem_take hc
      simp at this
    simp
    omega
theorem bal_kids {op nm : ByteArray} {ks : List (List UInt8)} (h1 : NoPar op.data.toList) (h2 : NoPar nm.data.toList) (h : ∀ k ∈ ks, Bal k) : Bal (opTxt op nm ks) := by
  have e : opTxt op nm ks = 40 :: ((op.data.toList ++ (if nm = sEmpty then [] else (32 : UInt8) :: nm.data.toList) ++ (ks.map fun k => (32 : UInt8) :: k).flatten) ++ [41]) := by
    unfold opTxt
    have ea : ∀ s : ByteArray, ∀ c : UInt8, ((⟨#[c]⟩ ++ s : ByteArray).data.toList) = c :: s.data.toList := fun s c => by simp [ByteArray.data_append]
    rw [ea, ea]
    simp
  rw [e]
  have hs : NoPar [32] := by intro c hc; simp at hc; subst hc; decide
  refine Bal.paren (Bal.append (Bal.append h1.bal ?_) ?_)
  · split
    · exact NoPar.bal (fun c hc => by cases hc)
    · exact hs.bal.append h2.bal
  · clear e
    induction ks with
    | nil => exact NoPar.bal (fun c hc => by cases hc)
    | cons k ks ih =>
      simp only [List.map_cons, List.flatten_cons]
      exact Bal.append (hs.bal.append (h k (by simp))) (ih fun x hx => h x (by simp [hx]))

theorem dec_noPar (u : Nat) : NoPar (Lib.decDigits u) := by
  induction u using Nat.strongRecOn with
  | ind u ih =>
    have hd : ∀ d, d < 10 → (UInt8.ofNat (48 + d) ≠ 40 ∧ UInt8.ofNat (48 + d) ≠ 41) := by decide
    rw [Lib.decDigits]
    split
    · rename_i h
      intro c hc
      simp only [List.mem_singleton] at hc
      subst hc
      exact hd u h
    · intro c hc
      rcases List.mem_append.mp hc with hc | hc
      · exact ih (u / 10) (by omega) c hc
      · simp only [List.mem_singleton] at hc
        subst hc
        exact hd _ (Nat.mod_lt _ (by decide))
theorem itoa_noPar (n : Int) : NoPar (Lib.itoa n) := by
  unfold Lib.itoa
  split
  · intro c hc
    rcases List.mem_cons.mp hc with rfl | hc
    · decide
    · exact dec_noPar _ c hc
  · exact dec_noPar _

end Go.Proofs.YtlmoeldillpamaaGreatDoor
