/- Plain facts: an error ahead of a text's end stays, whatever stands behind white; an expression within parentheses is the expression. No program. -/
import Derived.Test.YtlmoeldillpamaaDoorArExt
import Derived.Test.YtlmoeldillpamaaDoorArPos
namespace Go.Proofs.YtlmoeldillpamaaDoor
open Go.RowKit

theorem cond_ge {l : List Int} {n : Nat} {t : Tk} {r : Rs} (ht : t.Up) (h : rd l (n + 1) .cond t = some r) : ∃ x, rd l n (.bin 1) t = some x ∧ x.pos ≤ r.pos := by
  simp only [rd] at h
  generalize hx : rd l n (.bin 1) t = x at h
  match x, hx, h with
  | none, _, h => simp at h
  | some (.bad a p), hx, h =>
    simp only [Option.some.injEq] at h
    subst h
    exact ⟨_, rfl, Nat.le_refl _⟩
  | some (.ok a t1), hx, h =>
    obtain ⟨_, u1⟩ := rd_ge l n (.bin 1) t ht _ hx
    have u1 : t1.Up := u1
    have e1 : t1.start ≤ (tok l t1.stop).start := tok_next u1
    refine ⟨_, rfl, ?_⟩
    show t1.start ≤ r.pos
    simp only [] at h
    by_cases c : t1.text = sQue
    · rw [if_pos c] at h
      generalize hy : rd l n .expr (tok l t1.stop) = y at h
      match y, hy, h with
      | none, _, h => simp at h
      | some (.bad a p), hy, h =>
        obtain ⟨h2, u2⟩ := rd_ge l n .expr _ (tok_up l _) _ hy
        simp only [Option.some.injEq] at h
        subst h
        exact Nat.le_trans e1 h2
      | some (.ok b t2), hy, h =>
        obtain ⟨h2, u2⟩ := rd_ge l n .expr _ (tok_up l _) _ hy
        have h2 : (tok l t1.stop).start ≤ t2.start := h2
        have u2 : t2.Up := u2
        have e2 : t2.start ≤ (tok l t2.stop).start := tok_next u2
        simp only [] at h
        by_cases d : t2.text = sCol
        · rw [if_pos d] at h
          generalize hz : rd l n .cond (tok l t2.stop) = z at h
          match z, hz, h with
          | none, _, h => simp at h
          | some (.bad a p), hz, h =>
            obtain ⟨h3, u3⟩ := rd_ge l n .cond _ (tok_up l _) _ hz
            simp only [Option.some.injEq] at h
            subst h
            omega
          | some (.ok f t3), hz, h =>
            obtain ⟨h3, u3⟩ := rd_ge l n .cond _ (tok_up l _) _ hz
            have h3 : (tok l t2.stop).start ≤ t3.start := h3
            simp only [Option.some.injEq] at h
            subst h
            show t1.start ≤ t3.start
            omega
        · rw [if_neg d] at h
          simp only [Option.some.injEq] at h
          subst h
          show t1.start ≤ t2.start
          omega
    · rw [if_neg c] at h
      simp only [Option.some.injEq] at h
      subst h
      exact Nat.le_refl _

/-- Behind a name that is an operand the next token has been seen. -/
theorem name_ge {l : List Int} {n : Nat} {t : Tk} {r : Rs} (ht : t.Up) (hk : t.kind = 3) (h : rd l n .cond t = some r) : (tok l t.stop).start ≤ r.pos := by
  match n, h with
  | 0, h => simp [rd] at h
  | 1, h =>
    obtain ⟨x, hx, _⟩ := cond_ge ht h
    simp [rd] at hx
  | 2, h =>
    obtain ⟨x, hx, _⟩ := cond_ge ht h
    simp [rd] at hx
  | n + 3, h =>
    obtain ⟨x, hx, hp⟩ := cond_ge ht h
    have ho : rd l (n + 1) .opd t = some (.ok (.name t.text t.start) (tok l t.stop)) := by
      simp only [rd]
      rw [if_neg (by omega : ¬ t.kind = 2), if_pos hk]
    rw [rd, ho] at hx
    simp only [] at hx
    have := (rd_ge l _ _ _ (tok_up l _) _ hx).1
    omega

/-- Reading that ended ahead of the text's end ends so, whatever stands behind white. -/
theorem rd_app (l m : List Int) (x : Int) (hw : x = 32 ∨ x = 9) : ∀ (n : Nat) (md : Md) (t : Tk), t.Up → t.Lies l → ∀ r, rd l n md t = some r → r.pos < l.length → rd (l ++ x :: m) n md t = some r
  | 0, md, t, _, _, r, h, _ => by cases md <;> simp [rd] at h
  | n + 1, .expr, t, ht, hl, r, h, hp => by
    simp only [rd] at h ⊢
    by_cases c : t.kind = 3 ∧ asgB (tok l t.stop).text = true
    · rw [if_pos c] at h
      have e2 : (tok l t.stop).start ≤ (tok l (tok l t.stop).stop).start := tok_next (tok_up _ _)
      have l1 := tok_lies l _ hl.2
      have l2 := tok_lies l _ l1.2
      generalize hx : rd l n .expr (tok l (tok l t.stop).stop) = y at h
      match y, hx, h with
      | none, _, h => simp at h
      | some y, hx, h =>
        have hy : y.pos = r.pos := by
          cases y with
          | bad a p => simp only [Option.some.injEq] at h; subst h; rfl
          | ok a t1 => simp only [Option.some.injEq] at h; subst h; rfl
        have hg : (tok l (tok l t.stop).stop).start ≤ y.pos := (rd_ge l n .expr _ (tok_up l _) _ hx).1
        have f1 : tok (l ++ x :: m) t.stop = tok l t.stop := tok_app l m x hw _ hl.2 (by omega)
        have f2 : tok (l ++ x :: m) (tok l t.stop).stop = tok l (tok l t.stop).stop := tok_app l m x hw _ l1.2 (by omega)
        have ih := rd_app l m x hw n .expr _ (tok_up l _) l2 _ hx (by omega)
        rw [f1, if_pos c, f2, ih]
        exact h
    · rw [if_neg c] at h
      have ih := rd_app l m x hw n .cond t ht hl _ h hp
      by_cases hk : t.kind = 3
      · have hg := name_ge ht hk h
        rw [tok_app l m x hw _ hl.2 (by omega), if_neg c]
        exact ih
      · rw [if_neg (fun h => hk h.1)]
        exact ih
  | n + 1, .cond, t, ht, hl, r, h, hp => by
    obtain ⟨x1, hx, hp1⟩ := cond_ge ht h
    have ih := rd_app l m x hw n (.bin 1) t ht hl _ hx (by omega)
    obtain ⟨_, u1⟩ := rd_ge l n (.bin 1) t ht _ hx
    have l1 := rd_lies l n (.bin 1) t hl _ hx
    simp only [rd] at h ⊢
    rw [hx] at h
    rw [ih]
    cases x1 with
    | bad a p => exact h
    | ok a t1 =>
      have u1 : t1.Up := u1
      have l1 : t1.Lies l := l1
      simp only [] at h ⊢
      by_cases c : t1.text = sQue
      · rw [if_pos c] at h ⊢
        have ln := tok_lies l _ l1.2
        generalize hy : rd l n .expr (tok l t1.stop) = y at h
        match y, hy, h with
        | none, _, h => simp at h
        | some (.bad a p), hy, h =>
          obtain ⟨h2, _⟩ := rd_ge l n .expr _ (tok_up l _) _ hy
          simp only [Option.some.injEq] at h
          subst h
          rw [tok_app l m x hw _ l1.2 (by omega), rd_app l m x hw n .expr _ (tok_up l _) ln _ hy hp]
        | some (.ok b t2), hy, h =>
          obtain ⟨h2, u2⟩ := rd_ge l n .expr _ (tok_up l _) _ hy
          have h2 : (tok l t1.stop).start ≤ t2.start := h2
          have u2 : t2.Up := u2
          have l2 : t2.Lies l := rd_lies l n .expr _ ln _ hy
          have e2 : t2.start ≤ (tok l t2.stop).start := tok_next u2
          simp only [] at h
          by_cases d : t2.text = sCol
          · rw [if_pos d] at h
            have ln2 := tok_lies l _ l2.2
            generalize hz : rd l n .cond (tok l t2.stop) = z at h
            match z, hz, h with
            | none, _, h => simp at h
            | some (.bad a p), hz, h =>
              obtain ⟨h3, _⟩ := rd_ge l n .cond _ (tok_up l _) _ hz
              simp only [Option.some.injEq] at h
              subst h
              have q2 : t2.start < l.length := by omega
              rw [tok_app l m x hw _ l1.2 (by omega), rd_app l m x hw n .expr _ (tok_up l _) ln _ hy q2]
              simp only []
              rw [if_pos d, tok_app l m x hw _ l2.2 (by omega), rd_app l m x hw n .cond _ (tok_up l _) ln2 _ hz hp]
            | some (.ok f t3), hz, h =>
              obtain ⟨h3, _⟩ := rd_ge l n .cond _ (tok_up l _) _ hz
              have h3 : (tok l t2.stop).start ≤ t3.start := h3
              simp only [Option.some.injEq] at h
              subst h
              have q3 : t3.start < l.length := hp
              have q2 : t2.start < l.length := by omega
              rw [tok_app l m x hw _ l1.2 (by omega), rd_app l m x hw n .expr _ (tok_up l _) ln _ hy q2]
              simp only []
              rw [if_pos d, tok_app l m x hw _ l2.2 (by omega), rd_app l m x hw n .cond _ (tok_up l _) ln2 _ hz q3]
          · rw [if_neg d] at h
            simp only [Option.some.injEq] at h
            subst h
            have q2 : t2.start < l.length := hp
            rw [tok_app l m x hw _ l1.2 (by omega), rd_app l m x hw n .expr _ (tok_up l _) ln _ hy q2]
            simp only []
            rw [if_neg d]
      · rw [if_neg c] at h ⊢
        exact h
  | n + 1, .bin k, t, ht, hl, r, h, hp => by
    simp only [rd] at h ⊢
    generalize hx : rd l n .opd t = y at h
    match y, hx, h with
    | none, _, h => simp at h
    | some (.bad a p), hx, h =>
      simp only [Option.some.injEq] at h
      subst h
      rw [rd_app l m x hw n .opd t ht hl _ hx hp]
    | some (.ok a t1), hx, h =>
      obtain ⟨_, u1⟩ := rd_ge l n .opd t ht _ hx
      have l1 : t1.Lies l := rd_lies l n .opd t hl _ hx
      simp only [] at h
      have h2 := (rd_ge l n (.loop k a) t1 u1 _ h).1
      have q1 : t1.start < l.length := by omega
      rw [rd_app l m x hw n .opd t ht hl _ hx q1]
      exact rd_app l m x hw n (.loop k a) t1 u1 l1 _ h hp
  | n + 1, .loop k left, t, ht, hl, r, h, hp => by
    simp only [rd] at h ⊢
    by_cases c : k ≤ strN t.text
    · rw [if_pos c] at h ⊢
      have ln := tok_lies l _ hl.2
      generalize hx : rd l n (.bin (strN t.text + 1)) (tok l t.stop) = y at h
      match y, hx, h with
      | none, _, h => simp at h
      | some (.bad a p), hx, h =>
        obtain ⟨h1, _⟩ := rd_ge l n (.bin (strN t.text + 1)) _ (tok_up l _) _ hx
        simp only [Option.some.injEq] at h
        subst h
        rw [tok_app l m x hw _ hl.2 (by omega), rd_app l m x hw n _ _ (tok_up l _) ln _ hx hp]
      | some (.ok b t2), hx, h =>
        obtain ⟨h1, u1⟩ := rd_ge l n (.bin (strN t.text + 1)) _ (tok_up l _) _ hx
        have h1 : (tok l t.stop).start ≤ t2.start := h1
        have l1 : t2.Lies l := rd_lies l n _ _ ln _ hx
        simp only [] at h
        have h2 := (rd_ge l n (.loop k (.bin t.text t.start left b)) t2 u1 _ h).1
        have q2 : t2.start < l.length := by omega
        rw [tok_app l m x hw _ hl.2 (by omega), rd_app l m x hw n _ _ (tok_up l _) ln _ hx q2]
        exact rd_app l m x hw n _ t2 u1 l1 _ h hp
    · rw [if_neg c] at h ⊢
      exact h
  | n + 1, .opd, t, ht, hl, r, h, hp => by
    simp only [rd] at h ⊢
    have ln := tok_lies l _ hl.2
    rw [goesB_app l m x hw _ hl.2]
    by_cases c2 : t.kind = 2
    · rw [if_pos c2] at h ⊢
      by_cases co : t.over = true
      · rw [if_pos co] at h ⊢
        exact h
      · rw [if_neg co] at h ⊢
        by_cases cg : goesB l t.stop = true
        · rw [if_pos cg] at h ⊢
          exact h
        · rw [if_neg cg] at h ⊢
          simp only [Option.some.injEq] at h
          subst h
          rw [tok_app l m x hw _ hl.2 hp]
    rw [if_neg c2] at h ⊢
    by_cases c3 : t.kind = 3
    · rw [if_pos c3] at h ⊢
      simp only [Option.some.injEq] at h
      subst h
      rw [tok_app l m x hw _ hl.2 hp]
    rw [if_neg c3] at h ⊢
    by_cases cu : ¬ unB t.text = sEmpty
    · rw [if_pos cu] at h ⊢
      generalize hx : rd l n .opd (tok l t.stop) = y at h
      match y, hx, h with
      | none, _, h => simp at h
      | some (.bad a p), hx, h =>
        obtain ⟨h1, _⟩ := rd_ge l n .opd _ (tok_up l _) _ hx
        simp only [Option.some.injEq] at h
        subst h
        rw [tok_app l m x hw _ hl.2 (by omega), rd_app l m x hw n .opd _ (tok_up l _) ln _ hx hp]
      | some (.ok a t1), hx, h =>
        obtain ⟨h1, _⟩ := rd_ge l n .opd _ (tok_up l _) _ hx
        simp only [Option.some.injEq] at h
        subst h
        have h1 : (tok l t.stop).start ≤ t1.start := h1
        have q1 : t1.start < l.length := hp
        rw [tok_app l m x hw _ hl.2 (by omega), rd_app l m x hw n .opd _ (tok_up l _) ln _ hx q1]
    rw [if_neg cu] at h ⊢
    by_cases cp : t.text = sOpen
    · rw [if_pos cp] at h ⊢
      generalize hx : rd l n .expr (tok l t.stop) = y at h
      match y, hx, h with
      | none, _, h => simp at h
      | some (.bad a p), hx, h =>
        obtain ⟨h1, _⟩ := rd_ge l n .expr _ (tok_up l _) _ hx
        simp only [Option.some.injEq] at h
        subst h
        rw [tok_app l m x hw _ hl.2 (by omega), rd_app l m x hw n .expr _ (tok_up l _) ln _ hx hp]
      | some (.ok a t1), hx, h =>
        obtain ⟨h1, u1⟩ := rd_ge l n .expr _ (tok_up l _) _ hx
        have h1 : (tok l t.stop).start ≤ t1.start := h1
        have u1 : t1.Up := u1
        have l1 : t1.Lies l := rd_lies l n .expr _ ln _ hx
        have e2 : t1.start ≤ (tok l t1.stop).start := tok_next u1
        simp only [] at h
        by_cases cs : t1.text = sShut
        · rw [if_pos cs] at h
          simp only [Option.some.injEq] at h
          subst h
          have hp' : (tok l t1.stop).start < l.length := hp
          have q1 : t1.start < l.length := by omega
          rw [tok_app l m x hw _ hl.2 (by omega), rd_app l m x hw n .expr _ (tok_up l _) ln _ hx q1]
          simp only []
          rw [if_pos cs, tok_app l m x hw _ l1.2 hp']
        · rw [if_neg cs] at h
          simp only [Option.some.injEq] at h
          subst h
          have q1 : t1.start < l.length := hp
          rw [tok_app l m x hw _ hl.2 (by omega), rd_app l m x hw n .expr _ (tok_up l _) ln _ hx q1]
          simp only []
          rw [if_neg cs]
    · rw [if_neg cp] at h ⊢
      exact h

/-- An error ahead of a text's end stays, whatever stands behind white. -/
theorem parseP_app {l m : List Int} {x : Int} (hw : x = 32 ∨ x = 9) {n c p : Nat} (h : parseP l n = some (.bad c p)) (hp : p < l.length) (hm : (l ++ x :: m).length ≤ 1024) : parseP (l ++ x :: m) n = some (.bad c p) := by
  have hl : l.length ≤ 1024 := by simp at hm; omega
  unfold parseP at h ⊢
  rw [if_neg (by omega)] at h ⊢
  unfold readP at h ⊢
  have ln := tok_lies l 0 (Nat.zero_le _)
  generalize hx : rd l n .expr (tok l 0) = y at h
  match y, hx, h with
  | none, _, h => simp at h
  | some (.bad a q), hx, h =>
    simp only [Option.some.injEq, Rs.bad.injEq] at h
    obtain ⟨rfl, rfl⟩ := h
    have h1 := (rd_ge l n .expr _ (tok_up l _) _ hx).1
    have h1 : (tok l 0).start ≤ q := h1
    rw [tok_app l m x hw _ (Nat.zero_le _) (by omega), rd_app l m x hw n .expr _ (tok_up l _) ln _ hx hp]
  | some (.ok a t1), hx, h =>
    have h1 := (rd_ge l n .expr _ (tok_up l _) _ hx).1
    have h1 : (tok l 0).start ≤ t1.start := h1
    simp only [] at h
    by_cases ck : t1.kind = 0
    · rw [if_pos ck] at h
      simp at h
    · rw [if_neg ck] at h
      have hh := h
      simp only [refuse, Option.some.injEq, Rs.bad.injEq] at hh
      have q1 : t1.start < l.length := by omega
      rw [tok_app l m x hw _ (Nat.zero_le _) (by omega), rd_app l m x hw n .expr _ (tok_up l _) ln _ hx q1]
      simp only []
      rw [if_neg ck]
      exact h
end Go.Proofs.YtlmoeldillpamaaDoor
