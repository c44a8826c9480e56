/- Plain facts: an error lies in the text. No program. -/
import Derived.Test.YtlmoeldillpamaaDoorArFuel
namespace Go.Proofs.YtlmoeldillpamaaDoor
open Go.RowKit

/-- A token lies in the text. -/
def Tk.Lies (l : List Int) (t : Tk) : Prop := t.start ≤ l.length ∧ t.stop ≤ l.length
def Rs.Lies (l : List Int) : Rs → Prop
  | .ok _ t => t.Lies l
  | .bad _ p => p ≤ l.length

theorem tok_lies (l : List Int) (p : Nat) (h : p ≤ l.length) : (tok l p).Lies l := by
  unfold tok
  have hs : skipN l p ≤ l.length := by
    unfold skipN
    have := pre_le whiteB (l.drop p)
    rw [List.length_drop] at this
    omega
  generalize skipN l p = q at hs
  have hl : (l.drop q).length = l.length - q := List.length_drop
  generalize l.drop q = r at hl ⊢
  refine ⟨by rw [tokL_start]; exact hs, ?_⟩
  by_cases h0 : r.length = 0
  · have e : tokL r q = ⟨0, q, q, sEmpty, 0, false⟩ := by unfold tokL; rw [if_pos h0]
    rw [e]
    exact hs
  have h0 : 0 < r.length := by omega
  by_cases h1 : 0 < nmN r
  · rw [tk_nm h0 h1]
    have := nmN_le r
    show q + nmN r ≤ _
    omega
  by_cases h2 : 0 < cN r
  · rw [tk_cn h0 h1 h2]
    have := cN_le r
    show q + cN r ≤ _
    omega
  by_cases h3 : opB r = sEmpty
  · rw [tk_no h0 h1 h2 h3]
    exact hs
  · rw [tk_op h0 h1 h2 h3]
    have := opB_sz r
    show q + (opB r).size ≤ _
    omega

theorem rd_lies (l : List Int) : ∀ (n : Nat) (md : Md) (t : Tk), t.Lies l → ∀ r, rd l n md t = some r → r.Lies l
  | 0, md, t, _, r, h => by cases md <;> simp [rd] at h
  | n + 1, .expr, t, ht, r, h => by
    simp only [rd] at h
    by_cases c : t.kind = 3 ∧ asgB (tok l t.stop).text = true
    · rw [if_pos c] at h
      generalize hx : rd l n .expr (tok l (tok l t.stop).stop) = x at h
      match x, hx, h with
      | some (.ok a t1), hx, h =>
        have h1 := rd_lies l n .expr _ (tok_lies l _ (tok_lies l _ ht.2).2) _ hx
        simp only [Option.some.injEq] at h
        subst h
        exact h1
      | some (.bad a p), hx, h =>
        have h1 := rd_lies l n .expr _ (tok_lies l _ (tok_lies l _ ht.2).2) _ hx
        simp only [Option.some.injEq] at h
        subst h
        exact h1
      | none, _, h => simp at h
    · rw [if_neg c] at h
      exact rd_lies l n .cond t ht _ h
  | n + 1, .cond, t, ht, r, h => by
    simp only [rd] at h
    generalize hx : rd l n (.bin 1) t = x at h
    match x, hx, h with
    | none, _, h => simp at h
    | some (.bad a p), hx, h =>
      have h1 := rd_lies l n (.bin 1) t ht _ hx
      simp only [Option.some.injEq] at h
      subst h
      exact h1
    | some (.ok a t1), hx, h =>
      have h1 : t1.Lies l := rd_lies l n (.bin 1) t ht _ hx
      simp only [] at h
      by_cases c : t1.text = sQue
      · rw [if_pos c] at h
        generalize hy : rd l n .expr (tok l t1.stop) = y at h
        match y, hy, h with
        | none, _, h => simp at h
        | some (.bad a p), hy, h =>
          have h2 := rd_lies l n .expr _ (tok_lies l _ h1.2) _ hy
          simp only [Option.some.injEq] at h
          subst h
          exact h2
        | some (.ok b t2), hy, h =>
          have h2 : t2.Lies l := rd_lies l n .expr _ (tok_lies l _ h1.2) _ hy
          simp only [] at h
          by_cases d : t2.text = sCol
          · rw [if_pos d] at h
            generalize hz : rd l n .cond (tok l t2.stop) = z at h
            match z, hz, h with
            | none, _, h => simp at h
            | some (.bad a p), hz, h =>
              have h3 := rd_lies l n .cond _ (tok_lies l _ h2.2) _ hz
              simp only [Option.some.injEq] at h
              subst h
              exact h3
            | some (.ok f t3), hz, h =>
              have h3 := rd_lies l n .cond _ (tok_lies l _ h2.2) _ hz
              simp only [Option.some.injEq] at h
              subst h
              exact h3
          · rw [if_neg d] at h
            simp only [Option.some.injEq] at h
            subst h
            exact h2.1
      · rw [if_neg c] at h
        simp only [Option.some.injEq] at h
        subst h
        exact h1
  | n + 1, .bin k, t, ht, r, h => by
    simp only [rd] at h
    generalize hx : rd l n .opd t = x at h
    match x, hx, h with
    | none, _, h => simp at h
    | some (.bad a p), hx, h =>
      have h1 := rd_lies l n .opd t ht _ hx
      simp only [Option.some.injEq] at h
      subst h
      exact h1
    | some (.ok a t1), hx, h =>
      have h1 : t1.Lies l := rd_lies l n .opd t ht _ hx
      exact rd_lies l n (.loop k a) t1 h1 _ h
  | n + 1, .loop k left, t, ht, r, h => by
    simp only [rd] at h
    by_cases c : k ≤ strN t.text
    · rw [if_pos c] at h
      generalize hx : rd l n (.bin (strN t.text + 1)) (tok l t.stop) = x at h
      match x, hx, h with
      | none, _, h => simp at h
      | some (.bad a p), hx, h =>
        have h1 := rd_lies l n (.bin (strN t.text + 1)) _ (tok_lies l _ ht.2) _ hx
        simp only [Option.some.injEq] at h
        subst h
        exact h1
      | some (.ok b t2), hx, h =>
        have h1 : t2.Lies l := rd_lies l n (.bin (strN t.text + 1)) _ (tok_lies l _ ht.2) _ hx
        exact rd_lies l n (.loop k (.bin t.text t.start left b)) t2 h1 _ h
    · rw [if_neg c] at h
      simp only [Option.some.injEq] at h
      subst h
      exact ht
  | n + 1, .opd, t, ht, r, h => by
    simp only [rd] at h
    by_cases c2 : t.kind = 2
    · rw [if_pos c2] at h
      by_cases co : t.over = true
      · rw [if_pos co] at h
        simp only [Option.some.injEq] at h
        subst h
        exact ht.1
      · rw [if_neg co] at h
        by_cases cg : goesB l t.stop = true
        · rw [if_pos cg] at h
          simp only [Option.some.injEq] at h
          subst h
          exact ht.2
        · rw [if_neg cg] at h
          simp only [Option.some.injEq] at h
          subst h
          exact tok_lies l _ ht.2
    rw [if_neg c2] at h
    by_cases c3 : t.kind = 3
    · rw [if_pos c3] at h
      simp only [Option.some.injEq] at h
      subst h
      exact tok_lies l _ ht.2
    rw [if_neg c3] at h
    by_cases cu : ¬ unB t.text = sEmpty
    · rw [if_pos cu] at h
      generalize hx : rd l n .opd (tok l t.stop) = x at h
      match x, hx, h with
      | none, _, h => simp at h
      | some (.bad a p), hx, h =>
        have h1 := rd_lies l n .opd _ (tok_lies l _ ht.2) _ hx
        simp only [Option.some.injEq] at h
        subst h
        exact h1
      | some (.ok a t1), hx, h =>
        have h1 := rd_lies l n .opd _ (tok_lies l _ ht.2) _ hx
        simp only [Option.some.injEq] at h
        subst h
        exact h1
    rw [if_neg cu] at h
    by_cases cp : t.text = sOpen
    · rw [if_pos cp] at h
      generalize hx : rd l n .expr (tok l t.stop) = x at h
      match x, hx, h with
      | none, _, h => simp at h
      | some (.bad a p), hx, h =>
        have h1 := rd_lies l n .expr _ (tok_lies l _ ht.2) _ hx
        simp only [Option.some.injEq] at h
        subst h
        exact h1
      | some (.ok a t1), hx, h =>
        have h1 : t1.Lies l := rd_lies l n .expr _ (tok_lies l _ ht.2) _ hx
        simp only [] at h
        by_cases cs : t1.text = sShut
        · rw [if_pos cs] at h
          simp only [Option.some.injEq] at h
          subst h
          exact tok_lies l _ h1.2
        · rw [if_neg cs] at h
          simp only [Option.some.injEq] at h
          subst h
          exact h1.1
    · rw [if_neg cp] at h
      simp only [Option.some.injEq] at h
      subst h
      exact ht.1

/-- An error of Parse lies in the text. -/
theorem parseP_pos {l : List Int} {n c p : Nat} (h : parseP l n = some (.bad c p)) : p ≤ l.length := by
  unfold parseP at h
  by_cases hc : 1024 < l.length
  · rw [if_pos hc] at h
    simp only [Option.some.injEq, Rs.bad.injEq] at h
    omega
  · rw [if_neg hc] at h
    unfold readP at h
    generalize hx : rd l n .expr (tok l 0) = x at h
    match x, hx, h with
    | none, _, h => simp at h
    | some (.bad a q), hx, h =>
      have h1 := rd_lies l n .expr _ (tok_lies l 0 (Nat.zero_le _)) _ hx
      simp only [Option.some.injEq, Rs.bad.injEq] at h
      obtain ⟨rfl, rfl⟩ := h
      exact h1
    | some (.ok a t1), hx, h =>
      have h1 : t1.Lies l := rd_lies l n .expr _ (tok_lies l 0 (Nat.zero_le _)) _ hx
      simp only [] at h
      by_cases ck : t1.kind = 0
      · rw [if_pos ck] at h
        simp at h
      · rw [if_neg ck] at h
        simp only [refuse, Option.some.injEq, Rs.bad.injEq] at h
        obtain ⟨-, rfl⟩ := h
        exact h1.1

end Go.Proofs.YtlmoeldillpamaaDoor
