/- Plain facts: white behind a text changes no token of it; an error ahead of the text's end stays, whatever stands behind. No program. -/
import Derived.Test.YtlmoeldillpamaaDoorArFuel
namespace Go.Proofs.YtlmoeldillpamaaDoor
open Go.RowKit

theorem pre_app (p : Int → Bool) (x : Int) (m : List Int) (hx : p x = false) : ∀ r : List Int, pre p (r ++ x :: m) = pre p r
  | [] => by simp [pre, hx]
  | c :: r => by
    have h := pre_app p x m hx r
    unfold pre at h ⊢
    rw [List.cons_append]
    by_cases hc : p c = true
    · rw [List.takeWhile_cons_of_pos hc, List.takeWhile_cons_of_pos hc, List.length_cons, List.length_cons, h]
    · rw [List.takeWhile_cons_of_neg hc, List.takeWhile_cons_of_neg hc]
theorem pre_app_lt (p : Int → Bool) (y : List Int) : ∀ r : List Int, pre p r < r.length → pre p (r ++ y) = pre p r
  | [], h => by simp at h
  | c :: r, h => by
    unfold pre at h ⊢
    rw [List.cons_append]
    by_cases hc : p c = true
    · rw [List.takeWhile_cons_of_pos hc, List.length_cons, List.length_cons] at h
      have := pre_app_lt p y r (by unfold pre; omega)
      unfold pre at this
      rw [List.takeWhile_cons_of_pos hc, List.takeWhile_cons_of_pos hc, List.length_cons, List.length_cons, this]
    · rw [List.takeWhile_cons_of_neg hc, List.takeWhile_cons_of_neg hc]
theorem getD_app_lt (r y : List Int) (j : Nat) (h : j < r.length) : (r ++ y).getD j 0 = r.getD j 0 := by simp [List.getD, List.getElem?_append_left h]
theorem getD_app_at (r m : List Int) (x : Int) : (r ++ x :: m).getD r.length 0 = x := by simp [List.getD]

theorem nmN_app (r m : List Int) (x : Int) (hx : x = 32 ∨ x = 9) : nmN (r ++ x :: m) = nmN r := by
  obtain ⟨a, b, c⟩ := stopN_is (nameB r) r.length
  have hl : (r ++ x :: m).length = r.length + (m.length + 1) := by simp
  refine (stopN_is (nameB (r ++ x :: m)) (r ++ x :: m).length).same ⟨?_, ?_, ?_⟩
  · show stopN (nameB r) r.length ≤ _
    omega
  · intro j hj
    have hj : j < stopN (nameB r) r.length := hj
    have h := b j hj
    unfold nameB at h ⊢
    rw [getD_app_lt _ _ _ (by omega)]
    exact h
  · intro _
    show nameB (r ++ x :: m) (stopN (nameB r) r.length) = false
    generalize stopN (nameB r) r.length = k at *
    by_cases hk : k < r.length
    · have h := c hk
      unfold nameB at h ⊢
      rw [getD_app_lt _ _ _ hk]
      exact h
    · obtain rfl : k = r.length := by omega
      unfold nameB
      rw [getD_app_at]
      rcases hx with rfl | rfl <;> simp [letB, numB]

theorem hexB_app (r m : List Int) (x : Int) (hx : x = 32 ∨ x = 9) : hexB (r ++ x :: m) = hexB r := by
  match r with
  | [] => rcases hx with rfl | rfl <;> simp [hexB]
  | [a] => rcases hx with rfl | rfl <;> simp [hexB]
  | [a, b] => rcases hx with rfl | rfl <;> simp [hexB, dgt]
  | a :: b :: c :: r => simp [hexB]
theorem cB_app (r m : List Int) (x : Int) (hx : x = 32 ∨ x = 9) : cB (r ++ x :: m) = cB r := by
  cases r with
  | nil => rcases hx with rfl | rfl <;> simp [cB]
  | cons c r => simp [cB]
theorem dig_white (b x : Int) (hb : b ≤ 16) (hx : x = 32 ∨ x = 9) : dig? b x = false := by
  have e : dgt x = 16 := by rcases hx with rfl | rfl <;> rfl
  unfold dig?
  rw [e]
  simpa using hb
theorem rN_app (b : Int) (r m : List Int) (x : Int) (hb : b ≤ 16) (hx : x = 32 ∨ x = 9) : rN b (r ++ x :: m) = rN b r := pre_app _ _ _ (dig_white b x hb hx) r
theorem valK_app (b : Int) (r y : List Int) (k : Nat) (h : k ≤ r.length) : valK b (r ++ y) k = valK b r k := by unfold valK; rw [List.take_append_of_le_length h]
theorem gN_app (b : Int) (r m : List Int) (x : Int) (hx : x = 32 ∨ x = 9) : gN b (r ++ x :: m) = gN b r := by
  unfold gN
  split
  · exact rN_app b r m x (by omega) hx
  · rfl
theorem gV_app (b : Int) (r m : List Int) (x : Int) (hx : x = 32 ∨ x = 9) : gV b (r ++ x :: m) = gV b r := by
  unfold gV
  split
  · unfold rV; rw [rN_app b r m x (by omega) hx, valK_app b r (x :: m) (rN b r) (pre_le _ _)]
  · rfl
theorem gO_app (b : Int) (r m : List Int) (x : Int) (hx : x = 32 ∨ x = 9) : gO b (r ++ x :: m) = gO b r := by
  unfold gO
  split
  · unfold rO; rw [rN_app b r m x (by omega) hx, valK_app b r (x :: m) (rN b r) (pre_le _ _)]
  · rfl
theorem hexB_len {r : List Int} (h : hexB r = true) : 2 ≤ r.length := by
  unfold hexB at h
  simp only [Bool.and_eq_true, decide_eq_true_eq] at h
  omega
theorem cN_app (r m : List Int) (x : Int) (hx : x = 32 ∨ x = 9) : cN (r ++ x :: m) = cN r := by
  unfold cN
  rw [hexB_app r m x hx, cB_app r m x hx]
  split
  · rename_i h; rw [List.drop_append_of_le_length (hexB_len h), gN_app _ _ _ _ hx]
  · exact gN_app _ _ _ _ hx
theorem cV_app (r m : List Int) (x : Int) (hx : x = 32 ∨ x = 9) : cV (r ++ x :: m) = cV r := by
  unfold cV
  rw [hexB_app r m x hx, cB_app r m x hx]
  split
  · rename_i h; rw [List.drop_append_of_le_length (hexB_len h), gV_app _ _ _ _ hx]
  · exact gV_app _ _ _ _ hx
theorem cO_app (r m : List Int) (x : Int) (hx : x = 32 ∨ x = 9) : cO (r ++ x :: m) = cO r := by
  unfold cO
  rw [hexB_app r m x hx, cB_app r m x hx]
  split
  · rename_i h; rw [List.drop_append_of_le_length (hexB_len h), gO_app _ _ _ _ hx]
  · exact gO_app _ _ _ _ hx

def NoWh (s : ByteArray) : Prop := (32 : UInt8) ∉ s.data.toList ∧ (9 : UInt8) ∉ s.data.toList
theorem ops_noWh : ∀ s ∈ opList, NoWh s := by
  have h : ∀ s ∈ opList, (s.data.toList.all fun c => c != 32 && c != 9) = true := by decide
  intro s hs
  have := h s hs
  rw [List.all_eq_true] at this
  exact ⟨fun hc => by have := this _ hc; simp at this, fun hc => by have := this _ hc; simp at this⟩
theorem begins_app (r m : List Int) (x : Int) (hx : x = 32 ∨ x = 9) (s : ByteArray) (hs : NoWh s) : begins (r ++ x :: m) s = begins r s := by
  unfold begins
  by_cases h : s.size ≤ r.length
  · have hl : s.size ≤ (r ++ x :: m).length := by simp; omega
    rw [List.take_append_of_le_length h, decide_eq_true h, decide_eq_true hl]
  · have e1 : decide (s.size ≤ r.length) = false := decide_eq_false h
    have e2 : decide (ofBys ((r ++ x :: m).take s.size) = s) = false := by
      apply decide_eq_false
      intro he
      have hd : s.data.toList = ((r ++ x :: m).take s.size).map fun n => UInt8.ofNat n.toNat := (congrArg (fun t : ByteArray => t.data.toList) he).symm
      have hm : UInt8.ofNat x.toNat ∈ s.data.toList := by
        rw [hd, List.take_append, List.map_append]
        obtain ⟨j, hj⟩ : ∃ j, s.size - r.length = j + 1 := ⟨s.size - r.length - 1, by omega⟩
        rw [hj]
        simp
      rcases hx with rfl | rfl
      · exact hs.1 hm
      · exact hs.2 hm
    rw [e1, e2, Bool.and_false, Bool.false_and]
theorem opFrom_app (r m : List Int) (x : Int) (hx : x = 32 ∨ x = 9) : ∀ L : List ByteArray, (∀ s ∈ L, NoWh s) → opFrom (r ++ x :: m) L = opFrom r L
  | [], _ => rfl
  | s :: L, h => by
    unfold opFrom
    rw [begins_app r m x hx s (h s (by simp)), opFrom_app r m x hx L fun t ht => h t (by simp [ht])]
theorem opB_app (r m : List Int) (x : Int) (hx : x = 32 ∨ x = 9) : opB (r ++ x :: m) = opB r := opFrom_app r m x hx opList ops_noWh

theorem tokL_app (r m : List Int) (x : Int) (hx : x = 32 ∨ x = 9) (q : Nat) (h : 0 < r.length) : tokL (r ++ x :: m) q = tokL r q := by
  unfold tokL
  rw [nmN_app r m x hx, cN_app r m x hx, cV_app r m x hx, cO_app r m x hx, opB_app r m x hx, if_neg (by simp), if_neg (by omega : ¬ r.length = 0), List.take_append_of_le_length (nmN_le r)]
theorem drop_app {l y : List Int} {q : Nat} (h : q ≤ l.length) : (l ++ y).drop q = l.drop q ++ y := List.drop_append_of_le_length h
theorem skip_app (l y : List Int) (q : Nat) (h : q ≤ l.length) (hs : skipN l q < l.length) : skipN (l ++ y) q = skipN l q := by
  unfold skipN at hs ⊢
  rw [drop_app h, pre_app_lt]
  rw [List.length_drop]
  omega
theorem tok_app (l m : List Int) (x : Int) (hx : x = 32 ∨ x = 9) (q : Nat) (h : q ≤ l.length) (hs : (tok l q).start < l.length) : tok (l ++ x :: m) q = tok l q := by
  have hs' : skipN l q < l.length := by unfold tok at hs; rw [tokL_start] at hs; exact hs
  unfold tok
  rw [skip_app _ _ _ h hs', drop_app (by omega), tokL_app _ _ _ hx _ (by rw [List.length_drop]; omega)]
theorem goesB_app (l m : List Int) (x : Int) (hx : x = 32 ∨ x = 9) (q : Nat) (h : q ≤ l.length) : goesB (l ++ x :: m) q = goesB l q := by
  unfold goesB
  have hl : (l ++ x :: m).length = l.length + (m.length + 1) := by simp
  rw [drop_app h, nmN_app _ m x hx, hl]
  by_cases hq : q < l.length
  · rw [getD_app_lt _ _ _ hq, decide_eq_true hq, decide_eq_true (by omega : q < l.length + (m.length + 1))]
  · obtain rfl : q = l.length := by omega
    rw [getD_app_at, List.drop_length]
    rcases hx with rfl | rfl <;> simp [numB, nmN, stopN]

/-! where what is told stands -/
def Tk.Up (t : Tk) : Prop := t.start ≤ t.stop
def Rs.pos : Rs → Nat
  | .ok _ t => t.start
  | .bad _ p => p
def Rs.Up : Rs → Prop
  | .ok _ t => t.Up
  | .bad _ _ => True
theorem tok_up (l : List Int) (p : Nat) : (tok l p).Up := by
  unfold tok Tk.Up
  generalize skipN l p = q
  generalize l.drop q = r
  by_cases h0 : r.length = 0
  · have e : tokL r q = ⟨0, q, q, sEmpty, 0, false⟩ := by unfold tokL; rw [if_pos h0]
    rw [e]
    exact Nat.le_refl q
  have h0 : 0 < r.length := by omega
  by_cases h1 : 0 < nmN r
  · rw [tk_nm h0 h1]; exact Nat.le_add_right q _
  by_cases h2 : 0 < cN r
  · rw [tk_cn h0 h1 h2]; exact Nat.le_add_right q _
  by_cases h3 : opB r = sEmpty
  · rw [tk_no h0 h1 h2 h3]; exact Nat.le_refl q
  · rw [tk_op h0 h1 h2 h3]; exact Nat.le_add_right q _
theorem tok_next {l : List Int} {t : Tk} (h : t.Up) : t.start ≤ (tok l t.stop).start := Nat.le_trans h (tok_start l t.stop)

theorem rd_ge (l : List Int) : ∀ (n : Nat) (md : Md) (t : Tk), t.Up → ∀ r, rd l n md t = some r → t.start ≤ r.pos ∧ r.Up
  | 0, md, t, _, r, h => by cases md <;> simp [rd] at h
  | n + 1, .expr, t, ht, r, h => by
    simp only [rd] at h
    by_cases c : t.kind = 3 ∧ asgB (tok l t.stop).text = true
    · rw [if_pos c] at h
      have e1 : t.start ≤ (tok l t.stop).start := tok_next ht
      have e2 : (tok l t.stop).start ≤ (tok l (tok l t.stop).stop).start := tok_next (tok_up _ _)
      generalize hx : rd l n .expr (tok l (tok l t.stop).stop) = x at h
      match x, hx, h with
      | some (.ok a t1), hx, h =>
        obtain ⟨h1, h2⟩ := rd_ge l n .expr _ (tok_up l _) _ hx
        simp only [Option.some.injEq] at h
        subst h
        exact ⟨Nat.le_trans (Nat.le_trans e1 e2) h1, h2⟩
      | some (.bad a p), hx, h =>
        obtain ⟨h1, h2⟩ := rd_ge l n .expr _ (tok_up l _) _ hx
        simp only [Option.some.injEq] at h
        subst h
        exact ⟨Nat.le_trans (Nat.le_trans e1 e2) h1, trivial⟩
      | none, _, h => simp at h
    · rw [if_neg c] at h
      exact rd_ge l n .cond t ht _ h
  | n + 1, .cond, t, ht, r, h => by
    simp only [rd] at h
    generalize hx : rd l n (.bin 1) t = x at h
    match x, hx, h with
    | none, _, h => simp at h
    | some (.bad a p), hx, h =>
      have h1 := rd_ge l n (.bin 1) t ht _ hx
      simp only [Option.some.injEq] at h
      subst h
      exact h1
    | some (.ok a t1), hx, h =>
      obtain ⟨h1, u1⟩ := rd_ge l n (.bin 1) t ht _ hx
      have h1 : t.start ≤ t1.start := h1
      have u1 : t1.Up := u1
      have e1 : t1.start ≤ (tok l t1.stop).start := tok_next u1
      simp only [] at h
      by_cases c : t1.text = sQue
      · rw [if_pos c] at h
        generalize hy : rd l n .expr (tok l t1.stop) = y at h
        match y, hy, h with
        | none, _, h => simp at h
        | some (.bad a p), hy, h =>
          obtain ⟨h2, u2⟩ := rd_ge l n .expr _ (tok_up l _) _ hy
          simp only [Option.some.injEq] at h
          subst h
          exact ⟨Nat.le_trans h1 (Nat.le_trans e1 h2), u2⟩
        | some (.ok b t2), hy, h =>
          obtain ⟨h2, u2⟩ := rd_ge l n .expr _ (tok_up l _) _ hy
          have h2 : (tok l t1.stop).start ≤ t2.start := h2
          have u2 : t2.Up := u2
          have e2 : t2.start ≤ (tok l t2.stop).start := tok_next u2
          simp only [] at h
          by_cases d : t2.text = sCol
          · rw [if_pos d] at h
            generalize hz : rd l n .cond (tok l t2.stop) = z at h
            match z, hz, h with
            | none, _, h => simp at h
            | some (.bad a p), hz, h =>
              obtain ⟨h3, u3⟩ := rd_ge l n .cond _ (tok_up l _) _ hz
              simp only [Option.some.injEq] at h
              subst h
              exact ⟨by omega, u3⟩
            | some (.ok f t3), hz, h =>
              obtain ⟨h3, u3⟩ := rd_ge l n .cond _ (tok_up l _) _ hz
              have h3 : (tok l t2.stop).start ≤ t3.start := h3
              simp only [Option.some.injEq] at h
              subst h
              exact ⟨by show t.start ≤ t3.start; omega, u3⟩
          · rw [if_neg d] at h
            simp only [Option.some.injEq] at h
            subst h
            exact ⟨by show t.start ≤ t2.start; omega, trivial⟩
      · rw [if_neg c] at h
        simp only [Option.some.injEq] at h
        subst h
        exact ⟨h1, u1⟩
  | n + 1, .bin k, t, ht, r, h => by
    simp only [rd] at h
    generalize hx : rd l n .opd t = x at h
    match x, hx, h with
    | none, _, h => simp at h
    | some (.bad a p), hx, h =>
      have h1 := rd_ge l n .opd t ht _ hx
      simp only [Option.some.injEq] at h
      subst h
      exact h1
    | some (.ok a t1), hx, h =>
      obtain ⟨h1, u1⟩ := rd_ge l n .opd t ht _ hx
      have h1 : t.start ≤ t1.start := h1
      obtain ⟨h2, u2⟩ := rd_ge l n (.loop k a) t1 u1 _ h
      exact ⟨Nat.le_trans h1 h2, u2⟩
  | n + 1, .loop k left, t, ht, r, h => by
    simp only [rd] at h
    by_cases c : k ≤ strN t.text
    · rw [if_pos c] at h
      have e1 : t.start ≤ (tok l t.stop).start := tok_next ht
      generalize hx : rd l n (.bin (strN t.text + 1)) (tok l t.stop) = x at h
      match x, hx, h with
      | none, _, h => simp at h
      | some (.bad a p), hx, h =>
        obtain ⟨h1, u1⟩ := rd_ge l n (.bin (strN t.text + 1)) _ (tok_up l _) _ hx
        simp only [Option.some.injEq] at h
        subst h
        exact ⟨Nat.le_trans e1 h1, u1⟩
      | some (.ok b t2), hx, h =>
        obtain ⟨h1, u1⟩ := rd_ge l n (.bin (strN t.text + 1)) _ (tok_up l _) _ hx
        have h1 : (tok l t.stop).start ≤ t2.start := h1
        obtain ⟨h2, u2⟩ := rd_ge l n (.loop k (.bin t.text t.start left b)) t2 u1 _ h
        exact ⟨by omega, u2⟩
    · rw [if_neg c] at h
      simp only [Option.some.injEq] at h
      subst h
      exact ⟨Nat.le_refl _, ht⟩
  | n + 1, .opd, t, ht, r, h => by
    simp only [rd] at h
    have e1 : t.start ≤ (tok l t.stop).start := tok_next ht
    by_cases c2 : t.kind = 2
    · rw [if_pos c2] at h
      by_cases co : t.over = true
      · rw [if_pos co] at h
        simp only [Option.some.injEq] at h
        subst h
        exact ⟨Nat.le_refl _, trivial⟩
      · rw [if_neg co] at h
        by_cases cg : goesB l t.stop = true
        · rw [if_pos cg] at h
          simp only [Option.some.injEq] at h
          subst h
          exact ⟨ht, trivial⟩
        · rw [if_neg cg] at h
          simp only [Option.some.injEq] at h
          subst h
          exact ⟨e1, tok_up l _⟩
    rw [if_neg c2] at h
    by_cases c3 : t.kind = 3
    · rw [if_pos c3] at h
      simp only [Option.some.injEq] at h
      subst h
      exact ⟨e1, tok_up l _⟩
    rw [if_neg c3] at h
    by_cases cu : ¬ unB t.text = sEmpty
    · rw [if_pos cu] at h
      generalize hx : rd l n .opd (tok l t.stop) = x at h
      match x, hx, h with
      | none, _, h => simp at h
      | some (.bad a p), hx, h =>
        obtain ⟨h1, u1⟩ := rd_ge l n .opd _ (tok_up l _) _ hx
        simp only [Option.some.injEq] at h
        subst h
        exact ⟨Nat.le_trans e1 h1, u1⟩
      | some (.ok a t1), hx, h =>
        obtain ⟨h1, u1⟩ := rd_ge l n .opd _ (tok_up l _) _ hx
        simp only [Option.some.injEq] at h
        subst h
        exact ⟨Nat.le_trans e1 h1, u1⟩
    rw [if_neg cu] at h
    by_cases cp : t.text = sOpen
    · rw [if_pos cp] at h
      generalize hx : rd l n .expr (tok l t.stop) = x at h
      match x, hx, h with
      | none, _, h => simp at h
      | some (.bad a p), hx, h =>
        obtain ⟨h1, u1⟩ := rd_ge l n .expr _ (tok_up l _) _ hx
        simp only [Option.some.injEq] at h
        subst h
        exact ⟨Nat.le_trans e1 h1, u1⟩
      | some (.ok a t1), hx, h =>
        obtain ⟨h1, u1⟩ := rd_ge l n .expr _ (tok_up l _) _ hx
        have h1 : (tok l t.stop).start ≤ t1.start := h1
        have u1 : t1.Up := u1
        have e2 : t1.start ≤ (tok l t1.stop).start := tok_next u1
        simp only [] at h
        by_cases cs : t1.text = sShut
        · rw [if_pos cs] at h
          simp only [Option.some.injEq] at h
          subst h
          exact ⟨by show t.start ≤ (tok l t1.stop).start; omega, tok_up l _⟩
        · rw [if_neg cs] at h
          simp only [Option.some.injEq] at h
          subst h
          exact ⟨by show t.start ≤ t1.start; omega, trivial⟩
    · rw [if_neg cp] at h
      simp only [Option.some.injEq] at h
      subst h
      exact ⟨Nat.le_refl _, trivial⟩
end Go.Proofs.YtlmoeldillpamaaDoor
