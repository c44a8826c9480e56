/- Select's answer: rising, each once: by insertion, or sorted and made compact (pure). -/
import Derived.Lib.SlicesCompact
namespace Go.Proofs.YtoodpajbefffhaaDoor
open Go.Lib

abbrev Nm := List UInt8
theorem nm_irrefl (x : Nm) : ¬ x < x := List.lt_irrefl x
theorem nm_trans {x y z : Nm} (h : x < y) (k : y < z) : x < z := List.lt_trans h k
theorem nm_le_lt {x y z : Nm} (h : x ≤ y) (k : y < z) : x < z := List.lt_of_le_of_lt h k
theorem nm_tri (x y : Nm) : x < y ∨ x = y ∨ y < x := by
  by_cases h : x < y
  · exact Or.inl h
  · by_cases k : y < x
    · exact Or.inr (Or.inr k)
    · exact Or.inr (Or.inl (List.le_antisymm (List.not_lt.1 k) (List.not_lt.1 h)))
theorem strict_ext : ∀ (a b : List Nm), a.Pairwise (· < ·) → b.Pairwise (· < ·) → (∀ x, x ∈ a ↔ x ∈ b) → a = b
  | [], [], _, _, _ => rfl
  | [], y :: r, _, _, h => absurd ((h y).2 List.mem_cons_self) (by simp)
  | x :: r, [], _, _, h => absurd ((h x).1 List.mem_cons_self) (by simp)
  | x :: r, y :: q, ha, hb, h => by
    obtain ⟨a1, a2⟩ := List.pairwise_cons.1 ha
    obtain ⟨b1, b2⟩ := List.pairwise_cons.1 hb
    have hxy : x = y := by
      rcases List.mem_cons.1 ((h x).1 List.mem_cons_self) with e | hx
      · exact e
      · rcases List.mem_cons.1 ((h y).2 List.mem_cons_self) with e | hy
        · exact e.symm
        · exact absurd (nm_trans (b1 x hx) (a1 y hy)) (nm_irrefl y)
    subst hxy
    congr 1
    refine strict_ext r q a2 b2 fun z => ?_
    constructor
    · intro hz
      rcases List.mem_cons.1 ((h z).1 (List.mem_cons_of_mem _ hz)) with e | hz'
      · subst e; exact absurd (a1 z hz) (nm_irrefl z)
      · exact hz'
    · intro hz
      rcases List.mem_cons.1 ((h z).2 (List.mem_cons_of_mem _ hz)) with e | hz'
      · subst e; exact absurd (b1 z hz) (nm_irrefl z)
      · exact hz'
def putL (s : Nm) : List Nm → List Nm
  | [] => [s]
  | x :: r => if x < s then x :: putL s r else if x = s then x :: r else s :: x :: r
theorem putL_mem (s : Nm) : ∀ (l : List Nm) (y : Nm), y ∈ putL s l ↔ y ∈ l ∨ y = s
  | [], y => by simp [putL]
  | x :: r, y => by
    unfold putL
    split
    · rw [List.mem_cons, putL_mem s r y, List.mem_cons, or_assoc]
    · split
      · rename_i h; subst h
        constructor
        · exact Or.inl
        · rintro (h | rfl)
          · exact h
          · exact List.mem_cons_self
      · rw [List.mem_cons, or_comm]
theorem putL_sorted (s : Nm) : ∀ (l : List Nm), l.Pairwise (· < ·) → (putL s l).Pairwise (· < ·)
  | [], _ => by simp [putL]
  | x :: r, h => by
    obtain ⟨h1, h2⟩ := List.pairwise_cons.1 h
    unfold putL
    split
    · rename_i hx
      refine List.pairwise_cons.2 ⟨fun y hy => ?_, putL_sorted s r h2⟩
      rcases (putL_mem s r y).1 hy with hy | rfl
      · exact h1 y hy
      · exact hx
    · rename_i hn
      split
      · exact h
      · rename_i hne
        have hs : s < x := by
          rcases nm_tri x s with k | k | k
          · exact absurd k hn
          · exact absurd k hne
          · exact k
        refine List.pairwise_cons.2 ⟨fun y hy => ?_, h⟩
        rcases List.mem_cons.1 hy with rfl | hy
        · exact hs
        · exact nm_trans hs (h1 y hy)
def putAll (l : List Nm) : List Nm → List Nm
  | [] => l
  | s :: r => putAll (putL s l) r
theorem putAll_spec : ∀ (L l : List Nm), l.Pairwise (· < ·) → (putAll l L).Pairwise (· < ·) ∧ ∀ y, y ∈ putAll l L ↔ y ∈ l ∨ y ∈ L
  | [], l, h => ⟨h, fun y => by simp [putAll]⟩
  | s :: r, l, h => by
    have ih := putAll_spec r (putL s l) (putL_sorted s l h)
    refine ⟨ih.1, fun y => ?_⟩
    show y ∈ putAll (putL s l) r ↔ _
    rw [ih.2 y, putL_mem, List.mem_cons]
    constructor
    · rintro ((h | h) | h)
      · exact Or.inl h
      · exact Or.inr (Or.inl h)
      · exact Or.inr (Or.inr h)
    · rintro (h | h | h)
      · exact Or.inl (Or.inl h)
      · exact Or.inl (Or.inr h)
      · exact Or.inr h
theorem cmp_spec (d : Array Nm) (hd : ∀ i, i + 1 < d.size → d[i]! ≤ d[i + 1]!) : ∀ m, m ≤ d.size → (compactUpTo d m).Pairwise (· < ·) ∧ (∀ y, y ∈ compactUpTo d m ↔ ∃ j, j < m ∧ d[j]! = y) ∧ (∀ k, m = k + 1 → ∀ y, y ∈ compactUpTo d m → y ≤ d[k]!)
  | 0, _ => by
    have e : compactUpTo d 0 = [] := rfl
    rw [e]
    exact ⟨List.Pairwise.nil, fun y => by simp, fun k h => absurd h (by omega)⟩
  | m + 1, hm => by
    obtain ⟨i1, i2, i3⟩ := cmp_spec d hd m (by omega)
    rw [compactUpTo_succ]
    by_cases hk : keeps d m = true
    · rw [if_pos hk]
      have hlt : ∀ y, y ∈ compactUpTo d m → y < d[m]! := fun y hy => by
        cases m with
        | zero => have := (i2 y).1 hy; obtain ⟨j, hj, _⟩ := this; omega
        | succ k =>
          have h1 := i3 k rfl y hy
          have h2 := hd k (by omega)
          have h3 : d[k + 1]! ≠ d[k]! := by
            intro e
            unfold keeps at hk
            simp [e] at hk
          rcases nm_tri d[k]! d[k + 1]! with h | h | h
          · exact nm_le_lt h1 h
          · exact absurd h.symm h3
          · exact absurd h (List.not_lt.2 h2)
      refine ⟨List.pairwise_append.2 ⟨i1, by simp, fun a ha b hb => by rw [List.mem_singleton] at hb; subst hb; exact hlt a ha⟩, fun y => ?_, fun k hk' y hy => ?_⟩
      · rw [List.mem_append, i2 y, List.mem_singleton]
        constructor
        · rintro (⟨j, hj, he⟩ | rfl)
          · exact ⟨j, by omega, he⟩
          · exact ⟨m, by omega, rfl⟩
        · rintro ⟨j, hj, he⟩
          by_cases hjm : j = m
          · subst hjm; exact Or.inr he.symm
          · exact Or.inl ⟨j, by omega, he⟩
      · obtain rfl : m = k := by omega
        rcases List.mem_append.1 hy with hy | hy
        · exact List.le_of_lt (hlt y hy)
        · rw [List.mem_singleton] at hy; subst hy; exact List.le_refl _
    · rw [if_neg hk, List.append_nil]
      have hm0 : m ≠ 0 := fun e => hk (by subst e; exact keeps_lt_one d 0 (by omega))
      obtain ⟨k, rfl⟩ : ∃ k, m = k + 1 := ⟨m - 1, by omega⟩
      have he : d[k + 1]! = d[k]! := Classical.byContradiction fun h => hk (keeps_pos (by simpa using h))
      refine ⟨i1, fun y => ?_, fun k' hk' y hy => ?_⟩
      · rw [i2 y]
        constructor
        · rintro ⟨j, hj, h⟩; exact ⟨j, by omega, h⟩
        · rintro ⟨j, hj, h⟩
          by_cases hjm : j = k + 1
          · subst hjm; exact ⟨k, by omega, by rw [← he]; exact h⟩
          · exact ⟨j, by omega, h⟩
      · obtain rfl : k + 1 = k' := by omega
        rw [he]
        exact i3 k rfl y hy
theorem sel_eq (L : List Nm) : compactUpTo (L.mergeSort fun x y => decide (x ≤ y)).toArray (L.mergeSort fun x y => decide (x ≤ y)).length = putAll [] L := by
  obtain ⟨p1, p2⟩ := putAll_spec L [] List.Pairwise.nil
  have hs : (L.mergeSort fun x y => decide (x ≤ y)).Pairwise (fun x y => decide (x ≤ y) = true) := List.pairwise_mergeSort (fun a b c h k => by
    simp only [decide_eq_true_eq] at *
    exact List.le_trans h k) (fun a b => by
    simp only [Bool.or_eq_true, decide_eq_true_eq]
    exact List.le_total a b) L
  have hm : ∀ y, y ∈ (L.mergeSort fun x y => decide (x ≤ y)) ↔ y ∈ L := fun y => (List.mergeSort_perm L _).mem_iff
  generalize (L.mergeSort fun x y => decide (x ≤ y)) = M at *
  obtain ⟨c1, c2, _⟩ := cmp_spec M.toArray (fun i hi => by
    have hi' : i + 1 < M.length := by simpa using hi
    have := List.pairwise_iff_getElem.1 hs i (i + 1) (by omega) hi' (by omega)
    simp only [decide_eq_true_eq] at this
    rw [getElem!_pos M.toArray i (by simpa using (by omega : i < M.length)), getElem!_pos M.toArray (i + 1) hi]
    simpa using this) M.length (by simp)
  refine strict_ext _ _ c1 p1 fun y => ?_
  rw [c2 y, p2 y]
  constructor
  · rintro ⟨j, hj, h⟩
    rw [getElem!_pos M.toArray j (by simpa using hj)] at h
    right
    rw [← hm y, ← h]
    simp
  · rintro (h | h)
    · simp at h
    · obtain ⟨j, hj, he⟩ := List.getElem_of_mem ((hm y).2 h)
      exact ⟨j, hj, by rw [getElem!_pos M.toArray j (by simpa using hj)]; simpa using he⟩
end Go.Proofs.YtoodpajbefffhaaDoor
