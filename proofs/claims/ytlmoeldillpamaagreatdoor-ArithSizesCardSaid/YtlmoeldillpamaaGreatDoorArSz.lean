/- Plain facts: no more things than bytes; an error lies in the text. No program. -/
import Derived.Test.YtlmoeldillpamaaGreatDoorArSizeT
namespace Go.Proofs.YtlmoeldillpamaaGreatDoor
open Go.RowKit

theorem strN_asg {s : ByteArray} {k : Nat} (hk : 1 ≤ k) (h : k ≤ strN s) : asgB s = false := by
  unfold strN opRows at h
  simp only [rowFrom, List.any_cons, List.any_nil, Bool.or_false, Bool.or_eq_true, decide_eq_true_eq] at h
  repeat' (split at h)
  all_goals first
    | omega
    | (rename_i hh; rcases hh with rfl | rfl | rfl | rfl <;> decide)
    | (rename_i hh; rcases hh with rfl | rfl | rfl <;> decide)
    | (rename_i hh; rcases hh with rfl | rfl <;> decide)
    | (rename_i hh; subst hh; decide)
theorem one_str {s : ByteArray} {k : Nat} (hk : 1 ≤ k) (h : k ≤ strN s) : oneN s = 1 := by unfold oneN; rw [strN_asg hk h]; rfl
theorem one_que (t : Tk) (h : t.text = sQue) : oneN t.text = 1 := by rw [h]; decide
theorem one_un (s : ByteArray) : oneN (unB s) = 1 := by
  unfold unB
  split
  · rename_i c
    rcases c with rfl | rfl <;> decide
  · split
    · rename_i c
      rcases c with rfl | rfl <;> decide
    · decide

def Md.siz : Md → Nat
  | .loop _ t => sizeT t
  | _ => 0

theorem rd_size (l : List Int) : ∀ (n : Nat) (md : Md) (t : Tk), t.Sz l → md.Ok → ∀ e t', rd l n md t = some (.ok e t') → t'.Sz l ∧ sizeT e + mu l t' ≤ md.siz + mu l t
  | 0, md, t, _, _, e, t', h => by cases md <;> simp [rd] at h
  | n + 1, .expr, t, ht, _, e, t', h => by
    simp only [rd] at h
    by_cases c : t.kind = 3 ∧ asgB (tok l t.stop).text = true
    · rw [if_pos c] at h
      generalize hx : rd l n .expr (tok l (tok l t.stop).stop) = x at h
      match x, hx, h with
      | some (.ok a t1), hx, h =>
        simp only [Option.some.injEq, Rs.ok.injEq] at h
        obtain ⟨rfl, rfl⟩ := h
        obtain ⟨h1, ha⟩ := rd_size l n .expr _ (tok_sz _ _) trivial _ _ hx
        have m1 := mu_sz ht (Or.inr (Or.inl c.1))
        have m2 := mu_szt (tok_sz l t.stop) (asgB_txt c.2)
        have := oneN_le (tok l t.stop).text
        refine ⟨h1, ?_⟩
        simp only [sizeT, List.sum_cons, List.sum_nil, Md.siz] at ha ⊢
        omega
    · rw [if_neg c] at h
      exact rd_size l n .cond t ht trivial _ _ h
  | n + 1, .cond, t, ht, _, e, t', h => by
    simp only [rd] at h
    generalize hx : rd l n (.bin 1) t = x at h
    match x, hx, h with
    | some (.ok a t1), hx, h =>
      obtain ⟨h1, ha⟩ := rd_size l n (.bin 1) t ht (Nat.le_refl 1) _ _ hx
      simp only [] at h
      by_cases c : t1.text = sQue
      · rw [if_pos c] at h
        have m1 := mu_szt h1 (by rw [c]; decide)
        generalize hy : rd l n .expr (tok l t1.stop) = y at h
        match y, hy, h with
        | some (.ok b t2), hy, h =>
          obtain ⟨h2, hb⟩ := rd_size l n .expr _ (tok_sz _ _) trivial _ _ hy
          simp only [] at h
          by_cases d : t2.text = sCol
          · rw [if_pos d] at h
            have m2 := mu_szt h2 (by rw [d]; decide)
            generalize hz : rd l n .cond (tok l t2.stop) = z at h
            match z, hz, h with
            | some (.ok f t3), hz, h =>
              have := one_que t1 c
              obtain ⟨h3, hf⟩ := rd_size l n .cond _ (tok_sz _ _) trivial _ _ hz
              simp only [Option.some.injEq, Rs.ok.injEq] at h
              obtain ⟨rfl, rfl⟩ := h
              refine ⟨h3, ?_⟩
              simp only [sizeT, List.sum_cons, List.sum_nil, Md.siz] at ha hb hf ⊢
              omega
          · rw [if_neg d] at h
            simp [refuse] at h
      · rw [if_neg c] at h
        simp only [Option.some.injEq, Rs.ok.injEq] at h
        obtain ⟨rfl, rfl⟩ := h
        exact ⟨h1, ha⟩
  | n + 1, .bin k, t, ht, hk, e, t', h => by
    simp only [rd] at h
    generalize hx : rd l n .opd t = x at h
    match x, hx, h with
    | some (.ok a t1), hx, h =>
      obtain ⟨h1, ha⟩ := rd_size l n .opd t ht trivial _ _ hx
      obtain ⟨h2, hb⟩ := rd_size l n (.loop k a) t1 h1 hk _ _ h
      refine ⟨h2, ?_⟩
      simp only [Md.siz] at ha hb ⊢
      omega
  | n + 1, .loop k left, t, ht, hk, e, t', h => by
    simp only [rd] at h
    by_cases c : k ≤ strN t.text
    · rw [if_pos c] at h
      have m1 := mu_szt ht (strN_txt hk c)
      generalize hx : rd l n (.bin (strN t.text + 1)) (tok l t.stop) = x at h
      match x, hx, h with
      | some (.ok b t2), hx, h =>
        have := one_str hk c
        obtain ⟨h2, hb⟩ := rd_size l n (.bin (strN t.text + 1)) _ (tok_sz _ _) (Nat.le_add_left 1 _) _ _ hx
        obtain ⟨h3, hf⟩ := rd_size l n (.loop k (.bin t.text t.start left b)) t2 h2 hk _ _ h
        refine ⟨h3, ?_⟩
        simp only [sizeT, List.sum_cons, List.sum_nil, Md.siz] at hb hf ⊢
        omega
    · rw [if_neg c] at h
      simp only [Option.some.injEq, Rs.ok.injEq] at h
      obtain ⟨rfl, rfl⟩ := h
      exact ⟨ht, Nat.le_refl _⟩
  | n + 1, .opd, t, ht, _, e, t', h => by
    simp only [rd] at h
    by_cases c2 : t.kind = 2
    · rw [if_pos c2] at h
      have m1 := mu_sz ht (Or.inl c2)
      by_cases co : t.over = true
      · rw [if_pos co] at h; simp [refuse] at h
      · rw [if_neg co] at h
        by_cases cg : goesB l t.stop = true
        · rw [if_pos cg] at h; simp at h
        · rw [if_neg cg] at h
          simp only [Option.some.injEq, Rs.ok.injEq] at h
          obtain ⟨rfl, rfl⟩ := h
          have : oneN sNum = 1 := by decide
          refine ⟨tok_sz _ _, ?_⟩
          simp only [sizeT, Md.siz]
          omega
    rw [if_neg c2] at h
    by_cases c3 : t.kind = 3
    · rw [if_pos c3] at h
      have m1 := mu_sz ht (Or.inr (Or.inl c3))
      simp only [Option.some.injEq, Rs.ok.injEq] at h
      obtain ⟨rfl, rfl⟩ := h
      refine ⟨tok_sz _ _, ?_⟩
      have : oneN sName = 1 := by decide
      simp only [sizeT, Md.siz]
      omega
    rw [if_neg c3] at h
    by_cases cu : ¬ unB t.text = sEmpty
    · rw [if_pos cu] at h
      have m1 := mu_szt ht (unB_txt cu)
      generalize hx : rd l n .opd (tok l t.stop) = x at h
      match x, hx, h with
      | some (.ok a t1), hx, h =>
        simp only [Option.some.injEq, Rs.ok.injEq] at h
        obtain ⟨rfl, rfl⟩ := h
        obtain ⟨h1, ha⟩ := rd_size l n .opd _ (tok_sz _ _) trivial _ _ hx
        have := one_un t.text
        refine ⟨h1, ?_⟩
        simp only [sizeT, List.sum_cons, List.sum_nil, Md.siz] at ha ⊢
        omega
    rw [if_neg cu] at h
    by_cases cp : t.text = sOpen
    · rw [if_pos cp] at h
      have m1 := mu_szt ht (by rw [cp]; decide)
      generalize hx : rd l n .expr (tok l t.stop) = x at h
      match x, hx, h with
      | some (.ok a t1), hx, h =>
        obtain ⟨h1, ha⟩ := rd_size l n .expr _ (tok_sz _ _) trivial _ _ hx
        simp only [] at h
        by_cases cs : t1.text = sShut
        · rw [if_pos cs] at h
          have m2 := mu_szt h1 (by rw [cs]; decide)
          simp only [Option.some.injEq, Rs.ok.injEq] at h
          obtain ⟨rfl, rfl⟩ := h
          refine ⟨tok_sz _ _, ?_⟩
          simp only [Md.siz] at ha ⊢
          omega
        · rw [if_neg cs] at h
          simp [refuse] at h
    · rw [if_neg cp] at h
      simp [refuse] at h

theorem sizeT_pos (t : Tr) : 1 ≤ sizeT t := by
  have h : ∀ s, 1 ≤ oneN s := fun s => by unfold oneN; split <;> omega
  cases t <;> simp only [sizeT] <;> first | exact h _ | exact Nat.le_trans (h _) (Nat.le_add_right _ _)

/-- No more things than bytes. -/
theorem parseP_size {l : List Int} {n : Nat} {e : Tr} {t : Tk} (h : parseP l n = some (.ok e t)) : 1 ≤ sizeT e ∧ sizeT e ≤ l.length := by
  refine ⟨sizeT_pos e, ?_⟩
  obtain ⟨-, -, hl⟩ := parseP_wf h
  unfold parseP at h
  rw [if_neg (by omega)] at h
  unfold readP at h
  generalize hx : rd l n .expr (tok l 0) = x at h
  match x, hx, h with
  | some (.ok a t1), hx, h =>
    obtain ⟨-, ha⟩ := rd_size l n .expr _ (tok_sz _ _) trivial _ _ hx
    have hm : mu l (tok l 0) ≤ l.length := Nat.sub_le _ _
    simp only [Md.siz] at ha
    simp only [] at h
    by_cases c : t1.kind = 0
    · rw [if_pos c] at h
      simp only [Option.some.injEq, Rs.ok.injEq] at h
      obtain ⟨rfl, rfl⟩ := h
      omega
    · rw [if_neg c] at h
      simp [refuse] at h

end Go.Proofs.YtlmoeldillpamaaGreatDoor
