/- Plain facts: what reading tells has a text whose parentheses match. No program. -/
import Derived.Test.YtlmoeldillpamaaGreatDoorArPar
namespace Go.Proofs.YtlmoeldillpamaaGreatDoor
open Go.RowKit

def NoParS (s : ByteArray) : Prop := NoPar s.data.toList
theorem noPar_emp : NoParS sEmpty := fun c hc => by cases hc

theorem nm_bd {r : List Int} {j : Nat} (h : j < nmN r) : 48 ≤ r.getD j 0 ∧ r.getD j 0 ≤ 122 := by
  have := (stopN_is (nameB r) r.length).2.1 j h
  unfold nameB letB numB at this
  simp only [Bool.or_eq_true, Bool.and_eq_true, decide_eq_true_eq] at this
  omega
theorem byte_noPar (x : Int) (h : 48 ≤ x ∧ x ≤ 122) : UInt8.ofNat x.toNat ≠ 40 ∧ UInt8.ofNat x.toNat ≠ 41 := by
  have hd : ∀ d, d < 75 → (UInt8.ofNat (48 + d) ≠ 40 ∧ UInt8.ofNat (48 + d) ≠ 41) := by decide
  have := hd (x.toNat - 48) (by omega)
  rwa [show 48 + (x.toNat - 48) = x.toNat by omega] at this
theorem nm_noPar (r : List Int) : NoParS (ofBys (r.take (nmN r))) := by
  intro c hc
  unfold ofBys at hc
  simp only [List.mem_map] at hc
  obtain ⟨x, hx, rfl⟩ := hc
  obtain ⟨j, hj, rfl⟩ := List.getElem_of_mem hx
  have hj' : j < nmN r ∧ j < r.length := by simp at hj; omega
  rw [List.getElem_take]
  have := nm_bd hj'.1
  rw [List.getD, List.getElem?_eq_getElem hj'.2] at this
  exact byte_noPar _ this
theorem ops_noPar : ∀ s ∈ opList, s = sOpen ∨ s = sShut ∨ (s.data.toList.all fun c => c != 40 && c != 41) = true := by decide
theorem opB_noPar (r : List Int) : opB r = sOpen ∨ opB r = sShut ∨ NoParS (opB r) := by
  rcases opFrom_mem r opList with h | ⟨h, -⟩
  · right; right
    show NoParS (opFrom r opList)
    rw [h]; exact noPar_emp
  · rcases ops_noPar _ h with h' | h' | h'
    · exact Or.inl h'
    · exact Or.inr (Or.inl h')
    · refine Or.inr (Or.inr fun c hc => ?_)
      have := List.all_eq_true.mp h' c hc
      simpa using this

/-- A token's text has no parenthesis, or is one; a name has none. -/
structure Tk.Par (t : Tk) : Prop where
  tx : t.text = sOpen ∨ t.text = sShut ∨ NoParS t.text
  nm : t.kind = 3 → NoParS t.text

theorem tok_par (l : List Int) (p : Nat) : (tok l p).Par := by
  unfold tok
  generalize skipN l p = q
  generalize l.drop q = r
  by_cases h0 : r.length = 0
  · have e : tokL r q = ⟨0, q, q, sEmpty, 0, false⟩ := by unfold tokL; rw [if_pos h0]
    rw [e]
    exact ⟨Or.inr (Or.inr noPar_emp), fun _ => noPar_emp⟩
  have h0 : 0 < r.length := by omega
  by_cases h1 : 0 < nmN r
  · rw [tk_nm h0 h1]
    exact ⟨Or.inr (Or.inr (nm_noPar r)), fun _ => nm_noPar r⟩
  by_cases h2 : 0 < cN r
  · rw [tk_cn h0 h1 h2]
    exact ⟨Or.inr (Or.inr noPar_emp), fun _ => noPar_emp⟩
  by_cases h3 : opB r = sEmpty
  · rw [tk_no h0 h1 h2 h3]
    exact ⟨Or.inr (Or.inr noPar_emp), fun _ => noPar_emp⟩
  · rw [tk_op h0 h1 h2 h3]
    exact ⟨opB_noPar r, by intro h; simp at h⟩

theorem asg_noPar {t : Tk} (h : t.Par) (ha : asgB t.text = true) : NoPar t.text.data.toList := by
  rcases h.tx with e | e | e
  · rw [e] at ha; exact absurd ha (by decide)
  · rw [e] at ha; exact absurd ha (by decide)
  · exact e
theorem str_noPar {t : Tk} {k : Nat} (h : t.Par) (hk : 1 ≤ k) (hs : k ≤ strN t.text) : NoPar t.text.data.toList := by
  rcases h.tx with e | e | e
  · rw [e] at hs
    have : strN sOpen = 0 := by decide
    omega
  · rw [e] at hs
    have : strN sShut = 0 := by decide
    omega
  · exact e
theorem que_noPar {t : Tk} (h : t.text = sQue) : NoPar t.text.data.toList := by
  rw [h]
  intro c hc
  simp [sQue] at hc
  subst hc; decide
theorem un_noPar (s : ByteArray) : NoPar (unB s).data.toList := by
  have h : ((unB s).data.toList.all fun c => c != 40 && c != 41) = true := by
    unfold unB
    split
    · rename_i c
      rcases c with rfl | rfl <;> decide
    · split
      · rename_i c
        rcases c with rfl | rfl <;> decide
      · decide
  intro c hc
  have := List.all_eq_true.mp h c hc
  simpa using this

def Md.Bal : Md → Prop
  | .loop _ t => Proofs.YtlmoeldillpamaaGreatDoor.Bal (txt t)
  | _ => True

theorem rd_bal (l : List Int) : ∀ (n : Nat) (md : Md) (t : Tk), t.Par → md.Ok → md.Bal → ∀ e t', rd l n md t = some (.ok e t') → Bal (txt e) ∧ t'.Par
  | 0, md, t, _, _, _, e, t', h => by cases md <;> simp [rd] at h
  | n + 1, .expr, t, ht, _, _, e, t', h => by
    simp only [rd] at h
    by_cases c : t.kind = 3 ∧ asgB (tok l t.stop).text = true
    · rw [if_pos c] at h
      generalize hx : rd l n .expr (tok l (tok l t.stop).stop) = x at h
      match x, hx, h with
      | some (.ok a t1), hx, h =>
        simp only [Option.some.injEq, Rs.ok.injEq] at h
        obtain ⟨rfl, rfl⟩ := h
        obtain ⟨ha, h1⟩ := rd_bal l n .expr _ (tok_par _ _) trivial trivial _ _ hx
        exact ⟨bal_kids (asg_noPar (tok_par _ _) c.2) (ht.nm c.1) (by simpa using ha), h1⟩
    · rw [if_neg c] at h
      exact rd_bal l n .cond t ht trivial trivial _ _ h
  | n + 1, .cond, t, ht, _, _, e, t', h => by
    simp only [rd] at h
    generalize hx : rd l n (.bin 1) t = x at h
    match x, hx, h with
    | some (.ok a t1), hx, h =>
      obtain ⟨ha, h1⟩ := rd_bal l n (.bin 1) t ht (Nat.le_refl 1) trivial _ _ hx
      simp only [] at h
      by_cases c : t1.text = sQue
      · rw [if_pos c] at h
        generalize hy : rd l n .expr (tok l t1.stop) = y at h
        match y, hy, h with
        | some (.ok b t2), hy, h =>
          obtain ⟨hb, h2⟩ := rd_bal l n .expr _ (tok_par _ _) trivial trivial _ _ hy
          simp only [] at h
          by_cases d : t2.text = sCol
          · rw [if_pos d] at h
            generalize hz : rd l n .cond (tok l t2.stop) = z at h
            match z, hz, h with
            | some (.ok f t3), hz, h =>
              obtain ⟨hf, h3⟩ := rd_bal l n .cond _ (tok_par _ _) trivial trivial _ _ hz
              simp only [Option.some.injEq, Rs.ok.injEq] at h
              obtain ⟨rfl, rfl⟩ := h
              exact ⟨bal_kids (que_noPar c) noPar_emp (by simp [ha, hb, hf]), h3⟩
          · rw [if_neg d] at h
            simp [refuse] at h
      · rw [if_neg c] at h
        simp only [Option.some.injEq, Rs.ok.injEq] at h
        obtain ⟨rfl, rfl⟩ := h
        exact ⟨ha, h1⟩
  | n + 1, .bin k, t, ht, hk, _, e, t', h => by
    simp only [rd] at h
    generalize hx : rd l n .opd t = x at h
    match x, hx, h with
    | some (.ok a t1), hx, h =>
      obtain ⟨ha, h1⟩ := rd_bal l n .opd t ht trivial trivial _ _ hx
      exact rd_bal l n (.loop k a) t1 h1 hk ha _ _ h
  | n + 1, .loop k left, t, ht, hk, hl, e, t', h => by
    simp only [rd] at h
    by_cases c : k ≤ strN t.text
    · rw [if_pos c] at h
      generalize hx : rd l n (.bin (strN t.text + 1)) (tok l t.stop) = x at h
      match x, hx, h with
      | some (.ok b t2), hx, h =>
        obtain ⟨hb, h2⟩ := rd_bal l n (.bin (strN t.text + 1)) _ (tok_par _ _) (Nat.le_add_left 1 _) trivial _ _ hx
        have hl' : Bal (txt left) := hl
        exact rd_bal l n (.loop k (.bin t.text t.start left b)) t2 h2 hk (bal_kids (str_noPar ht hk c) noPar_emp (by simp [hl', hb])) _ _ h
    · rw [if_neg c] at h
      simp only [Option.some.injEq, Rs.ok.injEq] at h
      obtain ⟨rfl, rfl⟩ := h
      exact ⟨hl, ht⟩
  | n + 1, .opd, t, ht, _, _, e, t', h => by
    simp only [rd] at h
    by_cases c2 : t.kind = 2
    · rw [if_pos c2] at h
      by_cases co : t.over = true
      · rw [if_pos co] at h; simp [refuse] at h
      · rw [if_neg co] at h
        by_cases cg : goesB l t.stop = true
        · rw [if_pos cg] at h; simp at h
        · rw [if_neg cg] at h
          simp only [Option.some.injEq, Rs.ok.injEq] at h
          obtain ⟨rfl, rfl⟩ := h
          exact ⟨(itoa_noPar _).bal, tok_par _ _⟩
    rw [if_neg c2] at h
    by_cases c3 : t.kind = 3
    · rw [if_pos c3] at h
      simp only [Option.some.injEq, Rs.ok.injEq] at h
      obtain ⟨rfl, rfl⟩ := h
      exact ⟨NoPar.bal (ht.nm c3), tok_par _ _⟩
    rw [if_neg c3] at h
    by_cases cu : ¬ unB t.text = sEmpty
    · rw [if_pos cu] at h
      generalize hx : rd l n .opd (tok l t.stop) = x at h
      match x, hx, h with
      | some (.ok a t1), hx, h =>
        simp only [Option.some.injEq, Rs.ok.injEq] at h
        obtain ⟨rfl, rfl⟩ := h
        obtain ⟨ha, h1⟩ := rd_bal l n .opd _ (tok_par _ _) trivial trivial _ _ hx
        exact ⟨bal_kids (un_noPar _) noPar_emp (by simpa using ha), h1⟩
    rw [if_neg cu] at h
    by_cases cp : t.text = sOpen
    · rw [if_pos cp] at h
      generalize hx : rd l n .expr (tok l t.stop) = x at h
      match x, hx, h with
      | some (.ok a t1), hx, h =>
        obtain ⟨ha, h1⟩ := rd_bal l n .expr _ (tok_par _ _) trivial trivial _ _ hx
        simp only [] at h
        by_cases cs : t1.text = sShut
        · rw [if_pos cs] at h
          simp only [Option.some.injEq, Rs.ok.injEq] at h
          obtain ⟨rfl, rfl⟩ := h
          exact ⟨ha, tok_par _ _⟩
        · rw [if_neg cs] at h
          simp [refuse] at h
    · rw [if_neg cp] at h
      simp [refuse] at h

/-- The parentheses of the text of what Parse told. -/
theorem parseP_bal {l : List Int} {n : Nat} {e : Tr} {t : Tk} (h : parseP l n = some (.ok e t)) : Bal (txt e) := by
  obtain ⟨-, -, hl⟩ := parseP_wf h
  unfold parseP at h
  rw [if_neg (by omega)] at h
  unfold readP at h
  generalize hx : rd l n .expr (tok l 0) = x at h
  match x, hx, h with
  | some (.ok a t1), hx, h =>
    obtain ⟨ha, -⟩ := rd_bal l n .expr _ (tok_par _ _) trivial trivial _ _ hx
    simp only [] at h
    by_cases c : t1.kind = 0
    · rw [if_pos c] at h
      simp only [Option.some.injEq, Rs.ok.injEq] at h
      obtain ⟨rfl, rfl⟩ := h
      exact ha
    · rw [if_neg c] at h
      simp [refuse] at h

end Go.Proofs.YtlmoeldillpamaaGreatDoor
