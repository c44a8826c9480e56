/- The bytes of ranges; comparing bytes; the empty set's text. -/
import Derived.Test.YtopnckfmdjhbjaaDoorSeMor
import Derived.Test.YtopnckfmdjhbjaaDoorSeOpn
namespace Go.Proofs.YtopnckfmdjhbjaaDoor
open Go.RowKit

theorem byL_rng (low high : Nat) (h : low ≤ high) (hh : high < 256) : byL (rng low high) 256 = (List.range (high + 1 - low)).map fun i : Nat => ((low + i : Nat) : Int) := by
  have h0 : byL (rng low high) (0 + low) = [] := byL_skip _ 0 low fun j hj => by simp [rng]; omega
  rw [Nat.zero_add] at h0
  have h1 : ∀ m, m ≤ high + 1 - low → byL (rng low high) (low + m) = (List.range m).map fun i : Nat => ((low + i : Nat) : Int) := by
    intro m
    induction m with
    | zero => intro _; simpa using h0
    | succ m ih =>
      intro hm
      rw [← Nat.add_assoc, byL_step _ _ (by simp [rng]; omega), ih (by omega), List.range_succ, List.map_append]
      rfl
  have h2 := h1 (high + 1 - low) (Nat.le_refl _)
  have h3 := byL_skip (rng low high) (low + (high + 1 - low)) (256 - (high + 1)) fun j _ => by simp [rng]; omega
  rw [show low + (high + 1 - low) + (256 - (high + 1)) = 256 by omega] at h3
  rw [h3, h2]
theorem byL_none (low high : Nat) (h : high < low) : byL (rng low high) 256 = [] := by
  have := byL_skip (rng low high) 0 256 fun j _ => by simp [rng]; omega
  exact this
theorem byL_congr {p q : Nat → Bool} (h : ∀ c, c < 256 → p c = q c) : byL p 256 = byL q 256 := by
  unfold byL
  rw [List.filter_congr fun c hc => h c (by simpa using hc)]
theorem byL_rng_len (low high : Nat) (h : low ≤ high) (hh : high < 256) : (byL (rng low high) 256).length = high + 1 - low := by rw [byL_rng low high h hh]; simp
theorem byL_rng_getD (low high i : Nat) (h : low ≤ high) (hh : high < 256) (hi : i < high + 1 - low) : (byL (rng low high) 256).getD i 0 = ((low + i : Nat) : Int) := by
  rw [byL_rng low high h hh]
  simp [List.getD, hi]
theorem SV_no {p : Nat → Bool} (h : ∀ c, c < 256 → p c = false) : SV p = SV noP := SV_congr fun c hc => by rw [h c hc]; rfl
theorem byt_app {l m : List Int} (h : Byt l) (h' : Byt m) : Byt (l ++ m) := fun i => by
  by_cases hi : i < l.length
  · have := h i
    simpa [List.getD, List.getElem?_append, hi] using this
  · have := h' (i - l.length)
    simpa [List.getD, List.getElem?_append, hi] using this
/-- All bytes, in two parts. -/
theorem mem_both (p : Nat → Bool) (c : Nat) (hc : c < 256) : mem (byL (notP p) 256 ++ byL p 256) c = rng 0 255 c := by
  have h1 := mem_byL (notP p) c hc
  have h2 := mem_byL p c hc
  have e : rng 0 255 c = true := by simp [rng]; omega
  rw [e]
  unfold mem
  simp only [List.mem_append, decide_eq_true_eq]
  unfold notP at h1 ⊢
  cases hp : p c
  · rw [hp] at h1; left; simpa using h1
  · rw [hp] at h2; right; simpa using h2
theorem len_both (p : Nat → Bool) : (byL (notP p) 256).length + (byL p 256).length = 256 := by
  rw [← cntS_len, ← cntS_len]
  have := cnt_not p
  have e : cntS (notP p) = cntS (fun c => !p c) := rfl
  omega
theorem oneB (L : List Int) : ∀ u ∈ L.map (Value.int .u8), u.oneCell' = true := by
  intro u hu
  obtain ⟨n, _, rfl⟩ := List.mem_map.1 hu
  rfl
/-- What a slice of bytes hands to an append. -/
theorem newsB {w : World} {a : Addr} {n cap : Nat} {L : List Int} (h : Sl w (.slice (some a) n cap) L) : L.length = n ∧ ∀ j u, (L.map (Value.int .u8))[j]? = some u → w.cell? (a.add j) = some u := by
  obtain ⟨_, _, ⟨rfl, a', c', he⟩ | ⟨b, o, cap', he, _, _, hr⟩⟩ := h
  · simp only [Value.slice.injEq] at he
    exact ⟨he.2.1.symm, fun j u hj => by simp at hj⟩
  · simp only [Value.slice.injEq, Option.some.injEq] at he
    obtain ⟨rfl, rfl, rfl⟩ := he
    refine ⟨rfl, fun j u hj => ?_⟩
    have hlt : j < L.length := by
      have := (List.getElem?_eq_some_iff.1 hj).1
      simpa using this
    rw [WideShapes.add_plain, hr j hlt]
    rw [List.getElem?_map, List.getElem?_eq_getElem hlt] at hj
    simp only [Option.map_some, Option.some.injEq] at hj
    rw [← hj, List.getD, List.getElem?_eq_getElem hlt]
    rfl
end Go.Proofs.YtopnckfmdjhbjaaDoor
