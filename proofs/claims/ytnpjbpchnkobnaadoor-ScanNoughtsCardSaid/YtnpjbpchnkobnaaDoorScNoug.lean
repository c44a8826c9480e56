/- Noughts ahead of a number: plain facts; the law's call. -/
import Derived.Test.YtnpjbpchnkobnaaDoorScRefB
import Derived.Test.YtnpjbpchnkobnaaDoorScBackO
namespace Go.Proofs.YtnpjbpchnkobnaaDoor
open Go.RowKit

theorem pre_stop (p : Int → Bool) (l : List Int) (c : Int) (t : List Int) (h : ∀ x ∈ l, p x = true) (hc : p c = false) : pre p (l ++ c :: t) = l.length := by
  unfold pre
  rw [List.takeWhile_append_of_pos h]
  simp [hc]
theorem dig_read (b : Int) (l : List Int) (c : Int) (t : List Int) (v : Int) (hb : 2 ≤ b) (hb2 : b ≤ 16) (h : ∀ x ∈ l, dgt x < b) (hc : ¬ dgt c < b) (hv : val b l = v) (hv1 : v ≤ 9223372036854775807) :
    gN b (l ++ c :: t) = l.length ∧ gV b (l ++ c :: t) = v ∧ gO b (l ++ c :: t) = false := by
  have hr : rN b (l ++ c :: t) = l.length := pre_stop _ _ _ _ (fun x hx => by unfold dig?; simpa using h x hx) (by unfold dig?; simpa using hc)
  have hk : valK b (l ++ c :: t) l.length = v := by unfold valK; rw [List.take_left]; exact hv
  unfold gN gV gO rV rO
  rw [if_pos ⟨hb, hb2⟩, if_pos ⟨hb, hb2⟩, if_pos ⟨hb, hb2⟩, hr, hk]
  refine ⟨rfl, ?_, ?_⟩
  · unfold cut; rw [if_pos hv1]
  · unfold ovr; simp; omega
theorem val_noughts (b : Int) (z : Nat) (l : List Int) : val b (List.replicate z 48 ++ l) = val b l := by
  unfold val
  rw [List.foldl_append]
  congr 1
  induction z with
  | zero => rfl
  | succ z ih =>
    rw [List.replicate_succ, List.foldl_cons]
    have : (0 : Int) * b + dgt 48 = 0 := by unfold dgt; simp
    rw [this]
    exact ih
theorem baseL_val (b n : Nat) (up : Bool) (hb : 2 ≤ b) (hb2 : b ≤ 16) : val b (baseL b n up) = n ∧ ∀ c ∈ baseL b n up, dgt c < b := by
  cases up with
  | false => exact ⟨(digs_val b hb hb2 n).1, fun c hc => ((digs_val b hb hb2 n).2 c hc).1⟩
  | true =>
    refine ⟨?_, fun c hc => ?_⟩
    · show val b ((digs b n).map upB) = n
      unfold val
      rw [val_up _ _ _ (dgt_up b n hb hb2)]
      exact (digs_val b hb hb2 n).1
    · obtain ⟨x, hx, rfl⟩ := List.mem_map.1 (show c ∈ (digs b n).map upB from hc)
      rw [dgt_up b n hb hb2 x hx]
      exact ((digs_val b hb hb2 n).2 x hx).1
theorem dgt_z (b : Int) (hb2 : b ≤ 16) : ¬ dgt 122 < b := by unfold dgt; simp; omega
theorem dgt_bang (b : Int) (hb2 : b ≤ 16) : ¬ dgt 33 < b := by unfold dgt; simp; omega
theorem noughts_read (b n z : Nat) (t : List Int) (hb : 2 ≤ b) (hb2 : b ≤ 16) (hn : n < 9223372036854775808) :
    gN b (List.replicate z 48 ++ digs b n ++ 122 :: t) = z + (digs b n).length ∧ gV b (List.replicate z 48 ++ digs b n ++ 122 :: t) = n ∧ gO b (List.replicate z 48 ++ digs b n ++ 122 :: t) = false := by
  obtain ⟨h1, h2, h3⟩ := dig_read b (List.replicate z 48 ++ digs b n) 122 t n (by omega) (by omega) (fun x hx => by
    rcases List.mem_append.1 hx with h | h
    · rw [(List.mem_replicate.1 h).2]; unfold dgt; simp; omega
    · exact ((digs_val b hb hb2 n).2 x h).1) (dgt_z _ (by omega)) (by rw [val_noughts]; exact (digs_val b hb hb2 n).1) (by omega)
  refine ⟨?_, h2, h3⟩
  rw [h1]
  simp
theorem hex_read (n : Nat) (hn : n < 9223372036854775808) :
    cN (48 :: 120 :: (baseL 16 n true ++ [33])) = 2 + (digs 16 n).length ∧ cV (48 :: 120 :: (baseL 16 n true ++ [33])) = n ∧ cO (48 :: 120 :: (baseL 16 n true ++ [33])) = false := by
  obtain ⟨v1, v2⟩ := baseL_val 16 n true (by omega) (by omega)
  obtain ⟨h1, h2, h3⟩ := dig_read 16 (baseL 16 n true) 33 [] n (by omega) (by omega) v2 (dgt_bang _ (by omega)) v1 (by omega)
  have hl : (baseL 16 n true).length = (digs 16 n).length := baseL_len 16 n true
  have hp := digs_pos 16 n
  have hx : hexB (48 :: 120 :: (baseL 16 n true ++ [33])) = true := by
    obtain ⟨a, r, hr⟩ : ∃ a r, baseL 16 n true = a :: r := by
      cases hh : baseL 16 n true with
      | nil => rw [hh] at hl; simp at hl; omega
      | cons a r => exact ⟨a, r, rfl⟩
    have ha := v2 a (by rw [hr]; simp)
    rw [hr]
    unfold hexB
    simp
    exact ha
  unfold cN cV cO
  rw [if_pos hx, if_pos hx, if_pos hx]
  show 2 + gN 16 (baseL 16 n true ++ [33]) = _ ∧ gV 16 (baseL 16 n true ++ [33]) = _ ∧ gO 16 (baseL 16 n true ++ [33]) = _
  rw [h1, h2, h3, hl]
  exact ⟨rfl, rfl, rfl⟩
theorem Sl.old {w w' : World} {v : Value} {l : List Int} (h : Sl w v l) (hb : ∀ i, i < w.heap.size → w'.heap[i]? = w.heap[i]?) : Sl w' v l := by
  obtain ⟨hy, hl, ⟨rfl, a, cap, rfl⟩ | ⟨x, o, cap, rfl, hcl, hcm, hr⟩⟩ := h
  · exact ⟨hy, hl, Or.inl ⟨rfl, a, cap, rfl⟩⟩
  · refine ⟨hy, hl, Or.inr ⟨x, o, cap, rfl, hcl, hcm, fun i hi => ?_⟩⟩
    have hc := hr i hi
    have hlt : x < w.heap.size := by
      rcases Nat.lt_or_ge x w.heap.size with h' | h'
      · exact h'
      · simp [World.cell?, Array.getElem?_eq_none h'] at hc
    rw [World.cell?_of_block (w := w) (hb x hlt)]
    exact hc
end Go.Proofs.YtnpjbpchnkobnaaDoor
