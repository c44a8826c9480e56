/- The places of a set's bytes in their row (pure). -/
import Derived.Test.YtopnckfmdjhbjaaGreatDoorGlM1
namespace Go.Proofs.YtopnckfmdjhbjaaGreatDoor
open Go.RowKit

theorem byL_pre (p : Nat → Bool) (k : Nat) : ∀ n, ∃ r, byL p (k + n) = byL p k ++ r
  | 0 => ⟨[], by simp⟩
  | n + 1 => by
    obtain ⟨r, hr⟩ := byL_pre p k n
    rw [← Nat.add_assoc]
    by_cases h : p (k + n) = true
    · exact ⟨r ++ [((k + n : Nat) : Int)], by rw [byL_step p _ h, hr, List.append_assoc]⟩
    · have := byL_skip p (k + n) 1 (fun j hj => by have h0 : j = 0 := (by omega); subst h0; simpa using h)
      exact ⟨r, by rw [this, hr]⟩
/-- How many bytes stand ahead. -/
def idx (p : Nat → Bool) (k : Nat) : Nat := (byL p k).length
theorem idx_le (p : Nat → Bool) (k m : Nat) (h : k ≤ m) : idx p k ≤ idx p m := by
  obtain ⟨n, rfl⟩ : ∃ n, m = k + n := ⟨m - k, by omega⟩
  obtain ⟨r, hr⟩ := byL_pre p k n
  unfold idx
  rw [hr, List.length_append]
  omega
theorem idx_succ (p : Nat → Bool) (k : Nat) (h : p k = true) : idx p (k + 1) = idx p k + 1 := by
  unfold idx
  rw [byL_step p k h, List.length_append]
  rfl
theorem idx_skip (p : Nat → Bool) (k m : Nat) (h : k ≤ m) (hf : ∀ j, k ≤ j → j < m → p j = false) : idx p m = idx p k := by
  obtain ⟨n, rfl⟩ : ∃ n, m = k + n := ⟨m - k, by omega⟩
  unfold idx
  rw [byL_skip p k n (fun j hj => hf _ (by omega) (by omega))]
theorem byL_at (p : Nat → Bool) (c : Nat) (hc : c < 256) (h : p c = true) : (byL p 256)[idx p c]? = some (c : Int) := by
  obtain ⟨n, hn⟩ : ∃ n, 256 = (c + 1) + n := ⟨256 - (c + 1), by omega⟩
  obtain ⟨r, hr⟩ := byL_pre p (c + 1) n
  rw [hn, hr, byL_step p c h, List.append_assoc]
  unfold idx
  rw [List.getElem?_append_right (Nat.le_refl _), Nat.sub_self]
  rfl
/-- Behind k there is one more byte just if the row goes on. -/
theorem idx_more (p : Nat → Bool) (k : Nat) (hk : k ≤ 256) : idx p k < idx p 256 ↔ fst p k < 256 := by
  have hge := fst_ge p k
  have hle := fst_le p k hk
  have h1 := idx_skip p k (fst p k) hge (fun j h1 h2 => fst_miss p k j h1 h2)
  constructor
  · intro h
    rcases Nat.lt_or_ge (fst p k) 256 with h' | h'
    · exact h'
    · have e : fst p k = 256 := by omega
      rw [e] at h1
      omega
  · intro h
    have h2 := idx_succ p _ (fst_hit p k hk h)
    have h3 := idx_le p (fst p k + 1) 256 (by omega)
    omega
/-- Within a run the row counts. -/
theorem idx_run (p : Nat → Bool) (lo : Nat) : ∀ j, (∀ i, i < j → p (lo + i) = true) → idx p (lo + j) = idx p lo + j
  | 0, _ => rfl
  | j + 1, h => by
    have := idx_run p lo j (fun i hi => h i (by omega))
    rw [← Nat.add_assoc, idx_succ p _ (h j (by omega)), this]
    omega
theorem run_in (p : Nat → Bool) (lo i : Nat) (h : lo + i < fst (notP p) lo) : p (lo + i) = true := by
  have := fst_miss (notP p) lo (lo + i) (by omega) h
  simpa [notP] using this
/-- What the row holds at place j of the run that begins at lo, and whether the run goes on behind it. -/
theorem run_at (p : Nat → Bool) (lo j : Nat) (hlo : lo < 256) (hj : lo + j < fst (notP p) lo) : (byL p 256)[idx p lo + j]? = some ((lo + j : Nat) : Int) ∧ lo + j < 256 := by
  have hle := fst_le (notP p) lo (by omega)
  have h1 := idx_run p lo j (fun i hi => run_in p lo i (by omega))
  have h2 := byL_at p (lo + j) (by omega) (run_in p lo j hj)
  rw [h1] at h2
  exact ⟨h2, by omega⟩
theorem run_on (p : Nat → Bool) (lo j : Nat) (hlo : lo < 256) (hj : lo + j + 1 < fst (notP p) lo) : (byL p 256)[idx p lo + (j + 1)]? = some (((lo + j : Nat) : Int) + 1) ∧ idx p lo + (j + 1) < idx p 256 := by
  have h := run_at p lo (j + 1) hlo (by omega)
  refine ⟨by rw [h.1]; congr 1, ?_⟩
  have := (List.getElem?_eq_some_iff.1 h.1).1
  exact this
theorem run_off (p : Nat → Bool) (lo j : Nat) (hlo : lo < 256) (hj : lo + j + 1 = fst (notP p) lo) : ¬ idx p lo + (j + 1) < idx p 256 ∨ ∃ c : Nat, c < 256 ∧ (byL p 256)[idx p lo + (j + 1)]? = some (c : Int) ∧ c ≠ lo + j + 1 ∧ lo + j + 1 ≤ c := by
  have hle := fst_le (notP p) lo (by omega)
  have h1 := idx_run p lo (j + 1) (fun i hi => run_in p lo i (by omega))
  rw [← Nat.add_assoc] at h1
  by_cases hm : idx p (lo + j + 1) < idx p 256
  · right
    have hf := (idx_more p (lo + j + 1) (by omega)).1 hm
    have hge := fst_ge p (lo + j + 1)
    have h2 := byL_at p _ hf (fst_hit p _ (by omega) hf)
    rw [idx_skip p (lo + j + 1) _ hge (fun i h1 h2 => fst_miss p _ i h1 h2), h1] at h2
    refine ⟨_, hf, h2, fun e => ?_, hge⟩
    have h3 := fst_hit p (lo + j + 1) (by omega) hf
    rw [e, hj] at h3
    have h4 := fst_hit (notP p) lo (by omega) (by omega)
    simp [notP, h3] at h4
  · left
    omega
/-- Behind the run. -/
theorem idx_end (p : Nat → Bool) (lo : Nat) (_hlo : lo < 256) : idx p (fst (notP p) lo) = idx p lo + (fst (notP p) lo - lo) := by
  have hge := fst_ge (notP p) lo
  have h1 := idx_run p lo (fst (notP p) lo - lo) (fun i hi => run_in p lo i (by omega))
  rwa [show lo + (fst (notP p) lo - lo) = fst (notP p) lo by omega] at h1
theorem idx_fst (p : Nat → Bool) (k : Nat) : idx p (fst p k) = idx p k := idx_skip p k (fst p k) (fst_ge p k) (fun j h1 h2 => fst_miss p k j h1 h2)
theorem join_snoc (dn : List (List UInt8)) (x sep : List UInt8) : Lib.join (dn ++ [x]) sep = (if dn = [] then x else Lib.join dn sep ++ (sep ++ x)) := by
  cases dn with
  | nil => rw [if_pos rfl, List.nil_append, Lib.join_one]
  | cons y r =>
    rw [if_neg (by simp), List.cons_append, Lib.join_cons, Lib.join_cons, List.append_assoc]
    congr 1
    unfold Lib.joinTail
    simp
end Go.Proofs.YtopnckfmdjhbjaaGreatDoor
