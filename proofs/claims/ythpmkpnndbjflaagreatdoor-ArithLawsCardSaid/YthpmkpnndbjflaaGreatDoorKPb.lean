/- KPb: several texts in one (kmerge.py). -/
import Derived.Test.YthpmkpnndbjflaaGreatDoorKPa
/- Plain facts: white behind a text changes no token of it; an error ahead of the text's end stays, whatever stands behind. No program. -/
namespace Go.Proofs.YthpmkpnndbjflaaGreatDoor
open Go.RowKit

theorem pre_app (p : Int → Bool) (x : Int) (m : List Int) (hx : p x = false) : ∀ r : List Int, pre p (r ++ x :: m) = pre p r
  | [] => by simp [pre, hx]
  | c :: r => by
    have h := pre_app p x m hx r
    unfold pre at h ⊢
    rw [List.cons_append]
    by_cases hc : p c = true
    · rw [List.takeWhile_cons_of_pos hc, List.takeWhile_cons_of_pos hc, List.length_cons, List.length_cons, h]
    · rw [List.takeWhile_cons_of_neg hc, List.takeWhile_cons_of_neg hc]
theorem pre_app_lt (p : Int → Bool) (y : List Int) : ∀ r : List Int, pre p r < r.length → pre p (r ++ y) = pre p r
  | [], h => by simp at h
  | c :: r, h => by
    unfold pre at h ⊢
    rw [List.cons_append]
    by_cases hc : p c = true
    · rw [List.takeWhile_cons_of_pos hc, List.length_cons, List.length_cons] at h
      have := pre_app_lt p y r (by unfold pre; omega)
      unfold pre at this
      rw [List.takeWhile_cons_of_pos hc, List.takeWhile_cons_of_pos hc, List.length_cons, List.length_cons, this]
    · rw [List.takeWhile_cons_of_neg hc, List.takeWhile_cons_of_neg hc]
theorem getD_app_lt (r y : List Int) (j : Nat) (h : j < r.length) : (r ++ y).getD j 0 = r.getD j 0 := by simp [List.getD, List.getElem?_append_left h]
theorem getD_app_at (r m : List Int) (x : Int) : (r ++ x :: m).getD r.length 0 = x := by simp [List.getD]

theorem valK_app (b : Int) (r y : List Int) (k : Nat) (h : k ≤ r.length) : valK b (r ++ y) k = valK b r k := by unfold valK; rw [List.take_append_of_le_length h]
theorem hexB_len {r : List Int} (h : hexB r = true) : 2 ≤ r.length := by
  unfold hexB at h
  simp only [Bool.and_eq_true, decide_eq_true_eq] at h
  omega
theorem drop_app {l y : List Int} {q : Nat} (h : q ≤ l.length) : (l ++ y).drop q = l.drop q ++ y := List.drop_append_of_le_length h
theorem skip_app (l y : List Int) (q : Nat) (h : q ≤ l.length) (hs : skipN l q < l.length) : skipN (l ++ y) q = skipN l q := by
  unfold skipN at hs ⊢
  rw [drop_app h, pre_app_lt]
  rw [List.length_drop]
  omega
/-! where what is told stands -/
end Go.Proofs.YthpmkpnndbjflaaGreatDoor
/- Plain facts: a ')' behind a text changes no token of it (gen_arextb.py). No program. -/
namespace Go.Proofs.YthpmkpnndbjflaaGreatDoor
open Go.RowKit

theorem nmN_appB (r m : List Int) (x : Int) (hx : x = 41) : nmN (r ++ x :: m) = nmN r := by
  obtain ⟨a, b, c⟩ := stopN_is (nameB r) r.length
  have hl : (r ++ x :: m).length = r.length + (m.length + 1) := by simp
  refine (stopN_is (nameB (r ++ x :: m)) (r ++ x :: m).length).same ⟨?_, ?_, ?_⟩
  · show stopN (nameB r) r.length ≤ _
    omega
  · intro j hj
    have hj : j < stopN (nameB r) r.length := hj
    have h := b j hj
    unfold nameB at h ⊢
    rw [getD_app_lt _ _ _ (by omega)]
    exact h
  · intro _
    show nameB (r ++ x :: m) (stopN (nameB r) r.length) = false
    generalize stopN (nameB r) r.length = k at *
    by_cases hk : k < r.length
    · have h := c hk
      unfold nameB at h ⊢
      rw [getD_app_lt _ _ _ hk]
      exact h
    · obtain rfl : k = r.length := by omega
      unfold nameB
      rw [getD_app_at]
      subst hx; simp [letB, numB]

theorem hexB_appB (r m : List Int) (x : Int) (hx : x = 41) : hexB (r ++ x :: m) = hexB r := by
  match r with
  | [] => subst hx; simp [hexB]
  | [a] => subst hx; simp [hexB]
  | [a, b] => subst hx; simp [hexB, dgt]
  | a :: b :: c :: r => simp [hexB]
theorem cB_appB (r m : List Int) (x : Int) (hx : x = 41) : cB (r ++ x :: m) = cB r := by
  cases r with
  | nil => subst hx; simp [cB]
  | cons c r => simp [cB]
theorem dig_whiteB (b x : Int) (hb : b ≤ 16) (hx : x = 41) : dig? b x = false := by
  have e : dgt x = 16 := by subst hx; rfl
  unfold dig?
  rw [e]
  simpa using hb
theorem rN_appB (b : Int) (r m : List Int) (x : Int) (hb : b ≤ 16) (hx : x = 41) : rN b (r ++ x :: m) = rN b r := pre_app _ _ _ (dig_whiteB b x hb hx) r
theorem gN_appB (b : Int) (r m : List Int) (x : Int) (hx : x = 41) : gN b (r ++ x :: m) = gN b r := by
  unfold gN
  split
  · exact rN_appB b r m x (by omega) hx
  · rfl
theorem gV_appB (b : Int) (r m : List Int) (x : Int) (hx : x = 41) : gV b (r ++ x :: m) = gV b r := by
  unfold gV
  split
  · unfold rV; rw [rN_appB b r m x (by omega) hx, valK_app b r (x :: m) (rN b r) (pre_le _ _)]
  · rfl
theorem gO_appB (b : Int) (r m : List Int) (x : Int) (hx : x = 41) : gO b (r ++ x :: m) = gO b r := by
  unfold gO
  split
  · unfold rO; rw [rN_appB b r m x (by omega) hx, valK_app b r (x :: m) (rN b r) (pre_le _ _)]
  · rfl
theorem cN_appB (r m : List Int) (x : Int) (hx : x = 41) : cN (r ++ x :: m) = cN r := by
  unfold cN
  rw [hexB_appB r m x hx, cB_appB r m x hx]
  split
  · rename_i h; rw [List.drop_append_of_le_length (hexB_len h), gN_appB _ _ _ _ hx]
  · exact gN_appB _ _ _ _ hx
theorem cV_appB (r m : List Int) (x : Int) (hx : x = 41) : cV (r ++ x :: m) = cV r := by
  unfold cV
  rw [hexB_appB r m x hx, cB_appB r m x hx]
  split
  · rename_i h; rw [List.drop_append_of_le_length (hexB_len h), gV_appB _ _ _ _ hx]
  · exact gV_appB _ _ _ _ hx
theorem cO_appB (r m : List Int) (x : Int) (hx : x = 41) : cO (r ++ x :: m) = cO r := by
  unfold cO
  rw [hexB_appB r m x hx, cB_appB r m x hx]
  split
  · rename_i h; rw [List.drop_append_of_le_length (hexB_len h), gO_appB _ _ _ _ hx]
  · exact gO_appB _ _ _ _ hx

theorem ops_shut : ∀ s ∈ opList, (s.data.toList.all fun c => c != 41) = true ∨ s.size = 1 := by decide
theorem begins_appB (r m : List Int) (hr : 0 < r.length) (s : ByteArray) (hs : (s.data.toList.all fun c => c != 41) = true ∨ s.size = 1) : begins (r ++ 41 :: m) s = begins r s := by
  unfold begins
  by_cases h : s.size ≤ r.length
  · have hl : s.size ≤ (r ++ 41 :: m).length := by simp; omega
    rw [List.take_append_of_le_length h, decide_eq_true h, decide_eq_true hl]
  · have hs : (s.data.toList.all fun c => c != 41) = true := hs.resolve_right (by omega)
    have e1 : decide (s.size ≤ r.length) = false := decide_eq_false h
    have e2 : decide (ofBys ((r ++ 41 :: m).take s.size) = s) = false := by
      apply decide_eq_false
      intro he
      have hd : s.data.toList = ((r ++ 41 :: m).take s.size).map fun n => UInt8.ofNat n.toNat := (congrArg (fun t : ByteArray => t.data.toList) he).symm
      have hm : (41 : UInt8) ∈ s.data.toList := by
        rw [hd, List.take_append, List.map_append]
        obtain ⟨j, hj⟩ : ∃ j, s.size - r.length = j + 1 := ⟨s.size - r.length - 1, by omega⟩
        rw [hj]
        simp
      rw [List.all_eq_true] at hs
      have := hs _ hm
      simp at this
    rw [e1, e2, Bool.and_false, Bool.false_and]
theorem opFrom_appB (r m : List Int) (hr : 0 < r.length) : ∀ L : List ByteArray, (∀ s ∈ L, (s.data.toList.all fun c => c != 41) = true ∨ s.size = 1) → opFrom (r ++ 41 :: m) L = opFrom r L
  | [], _ => rfl
  | s :: L, h => by
    unfold opFrom
    rw [begins_appB r m hr s (h s (by simp)), opFrom_appB r m hr L fun t ht => h t (by simp [ht])]
theorem opB_appB (r m : List Int) (hr : 0 < r.length) : opB (r ++ 41 :: m) = opB r := opFrom_appB r m hr opList ops_shut
theorem tokL_appB (r m : List Int) (x : Int) (hx : x = 41) (q : Nat) (h : 0 < r.length) : tokL (r ++ x :: m) q = tokL r q := by
  unfold tokL
  rw [nmN_appB r m x hx, cN_appB r m x hx, cV_appB r m x hx, cO_appB r m x hx, show opB (r ++ x :: m) = opB r by subst hx; exact opB_appB r m h, if_neg (by simp), if_neg (by omega : ¬ r.length = 0), List.take_append_of_le_length (nmN_le r)]
theorem tok_appB (l m : List Int) (x : Int) (hx : x = 41) (q : Nat) (h : q ≤ l.length) (hs : (tok l q).start < l.length) : tok (l ++ x :: m) q = tok l q := by
  have hs' : skipN l q < l.length := by unfold tok at hs; rw [tokL_start] at hs; exact hs
  unfold tok
  rw [skip_app _ _ _ h hs', drop_app (by omega), tokL_appB _ _ _ hx _ (by rw [List.length_drop]; omega)]
theorem goesB_appB (l m : List Int) (x : Int) (hx : x = 41) (q : Nat) (h : q ≤ l.length) : goesB (l ++ x :: m) q = goesB l q := by
  unfold goesB
  have hl : (l ++ x :: m).length = l.length + (m.length + 1) := by simp
  rw [drop_app h, nmN_appB _ m x hx, hl]
  by_cases hq : q < l.length
  · rw [getD_app_lt _ _ _ hq, decide_eq_true hq, decide_eq_true (by omega : q < l.length + (m.length + 1))]
  · obtain rfl : q = l.length := by omega
    rw [getD_app_at, List.drop_length]
    subst hx; simp [numB, nmN, stopN]

end Go.Proofs.YthpmkpnndbjflaaGreatDoor
/- Plain facts: an error lies in the text. No program. -/
namespace Go.Proofs.YthpmkpnndbjflaaGreatDoor
open Go.RowKit

/-- A token lies in the text. -/
def Tk.Lies (l : List Int) (t : Tk) : Prop := t.start ≤ l.length ∧ t.stop ≤ l.length
def Rs.Lies (l : List Int) : Rs → Prop
  | .ok _ t => t.Lies l
  | .bad _ p => p ≤ l.length

theorem tok_lies (l : List Int) (p : Nat) (h : p ≤ l.length) : (tok l p).Lies l := by
  unfold tok
  have hs : skipN l p ≤ l.length := by
    unfold skipN
    have := pre_le whiteB (l.drop p)
    rw [List.length_drop] at this
    omega
  generalize skipN l p = q at hs
  have hl : (l.drop q).length = l.length - q := List.length_drop
  generalize l.drop q = r at hl ⊢
  refine ⟨by rw [tokL_start]; exact hs, ?_⟩
  by_cases h0 : r.length = 0
  · have e : tokL r q = ⟨0, q, q, sEmpty, 0, false⟩ := by unfold tokL; rw [if_pos h0]
    rw [e]
    exact hs
  have h0 : 0 < r.length := by omega
  by_cases h1 : 0 < nmN r
  · rw [tk_nm h0 h1]
    have := nmN_le r
    show q + nmN r ≤ _
    omega
  by_cases h2 : 0 < cN r
  · rw [tk_cn h0 h1 h2]
    have := cN_le r
    show q + cN r ≤ _
    omega
  by_cases h3 : opB r = sEmpty
  · rw [tk_no h0 h1 h2 h3]
    exact hs
  · rw [tk_op h0 h1 h2 h3]
    have := opB_sz r
    show q + (opB r).size ≤ _
    omega

theorem rd_lies (l : List Int) : ∀ (n : Nat) (md : Md) (t : Tk), t.Lies l → ∀ r, rd l n md t = some r → r.Lies l
  | 0, md, t, _, r, h => by cases md <;> simp [rd] at h
  | n + 1, .expr, t, ht, r, h => by
    simp only [rd] at h
    by_cases c : t.kind = 3 ∧ asgB (tok l t.stop).text = true
    · rw [if_pos c] at h
      generalize hx : rd l n .expr (tok l (tok l t.stop).stop) = x at h
      match x, hx, h with
      | some (.ok a t1), hx, h =>
        have h1 := rd_lies l n .expr _ (tok_lies l _ (tok_lies l _ ht.2).2) _ hx
        simp only [Option.some.injEq] at h
        subst h
        exact h1
      | some (.bad a p), hx, h =>
        have h1 := rd_lies l n .expr _ (tok_lies l _ (tok_lies l _ ht.2).2) _ hx
        simp only [Option.some.injEq] at h
        subst h
        exact h1
      | none, _, h => simp at h
    · rw [if_neg c] at h
      exact rd_lies l n .cond t ht _ h
  | n + 1, .cond, t, ht, r, h => by
    simp only [rd] at h
    generalize hx : rd l n (.bin 1) t = x at h
    match x, hx, h with
    | none, _, h => simp at h
    | some (.bad a p), hx, h =>
      have h1 := rd_lies l n (.bin 1) t ht _ hx
      simp only [Option.some.injEq] at h
      subst h
      exact h1
    | some (.ok a t1), hx, h =>
      have h1 : t1.Lies l := rd_lies l n (.bin 1) t ht _ hx
      simp only [] at h
      by_cases c : t1.text = sQue
      · rw [if_pos c] at h
        generalize hy : rd l n .expr (tok l t1.stop) = y at h
        match y, hy, h with
        | none, _, h => simp at h
        | some (.bad a p), hy, h =>
          have h2 := rd_lies l n .expr _ (tok_lies l _ h1.2) _ hy
          simp only [Option.some.injEq] at h
          subst h
          exact h2
        | some (.ok b t2), hy, h =>
          have h2 : t2.Lies l := rd_lies l n .expr _ (tok_lies l _ h1.2) _ hy
          simp only [] at h
          by_cases d : t2.text = sCol
          · rw [if_pos d] at h
            generalize hz : rd l n .cond (tok l t2.stop) = z at h
            match z, hz, h with
            | none, _, h => simp at h
            | some (.bad a p), hz, h =>
              have h3 := rd_lies l n .cond _ (tok_lies l _ h2.2) _ hz
              simp only [Option.some.injEq] at h
              subst h
              exact h3
            | some (.ok f t3), hz, h =>
              have h3 := rd_lies l n .cond _ (tok_lies l _ h2.2) _ hz
              simp only [Option.some.injEq] at h
              subst h
              exact h3
          · rw [if_neg d] at h
            simp only [Option.some.injEq] at h
            subst h
            exact h2.1
      · rw [if_neg c] at h
        simp only [Option.some.injEq] at h
        subst h
        exact h1
  | n + 1, .bin k, t, ht, r, h => by
    simp only [rd] at h
    generalize hx : rd l n .opd t = x at h
    match x, hx, h with
    | none, _, h => simp at h
    | some (.bad a p), hx, h =>
      have h1 := rd_lies l n .opd t ht _ hx
      simp only [Option.some.injEq] at h
      subst h
      exact h1
    | some (.ok a t1), hx, h =>
      have h1 : t1.Lies l := rd_lies l n .opd t ht _ hx
      exact rd_lies l n (.loop k a) t1 h1 _ h
  | n + 1, .loop k left, t, ht, r, h => by
    simp only [rd] at h
    by_cases c : k ≤ strN t.text
    · rw [if_pos c] at h
      generalize hx : rd l n (.bin (strN t.text + 1)) (tok l t.stop) = x at h
      match x, hx, h with
      | none, _, h => simp at h
      | some (.bad a p), hx, h =>
        have h1 := rd_lies l n (.bin (strN t.text + 1)) _ (tok_lies l _ ht.2) _ hx
        simp only [Option.some.injEq] at h
        subst h
        exact h1
      | some (.ok b t2), hx, h =>
        have h1 : t2.Lies l := rd_lies l n (.bin (strN t.text + 1)) _ (tok_lies l _ ht.2) _ hx
        exact rd_lies l n (.loop k (.bin t.text t.start left b)) t2 h1 _ h
    · rw [if_neg c] at h
      simp only [Option.some.injEq] at h
      subst h
      exact ht
  | n + 1, .opd, t, ht, r, h => by
    simp only [rd] at h
    by_cases c2 : t.kind = 2
    · rw [if_pos c2] at h
      by_cases co : t.over = true
      · rw [if_pos co] at h
        simp only [Option.some.injEq] at h
        subst h
        exact ht.1
      · rw [if_neg co] at h
        by_cases cg : goesB l t.stop = true
        · rw [if_pos cg] at h
          simp only [Option.some.injEq] at h
          subst h
          exact ht.2
        · rw [if_neg cg] at h
          simp only [Option.some.injEq] at h
          subst h
          exact tok_lies l _ ht.2
    rw [if_neg c2] at h
    by_cases c3 : t.kind = 3
    · rw [if_pos c3] at h
      simp only [Option.some.injEq] at h
      subst h
      exact tok_lies l _ ht.2
    rw [if_neg c3] at h
    by_cases cu : ¬ unB t.text = sEmpty
    · rw [if_pos cu] at h
      generalize hx : rd l n .opd (tok l t.stop) = x at h
      match x, hx, h with
      | none, _, h => simp at h
      | some (.bad a p), hx, h =>
        have h1 := rd_lies l n .opd _ (tok_lies l _ ht.2) _ hx
        simp only [Option.some.injEq] at h
        subst h
        exact h1
      | some (.ok a t1), hx, h =>
        have h1 := rd_lies l n .opd _ (tok_lies l _ ht.2) _ hx
        simp only [Option.some.injEq] at h
        subst h
        exact h1
    rw [if_neg cu] at h
    by_cases cp : t.text = sOpen
    · rw [if_pos cp] at h
      generalize hx : rd l n .expr (tok l t.stop) = x at h
      match x, hx, h with
      | none, _, h => simp at h
      | some (.bad a p), hx, h =>
        have h1 := rd_lies l n .expr _ (tok_lies l _ ht.2) _ hx
        simp only [Option.some.injEq] at h
        subst h
        exact h1
      | some (.ok a t1), hx, h =>
        have h1 : t1.Lies l := rd_lies l n .expr _ (tok_lies l _ ht.2) _ hx
        simp only [] at h
        by_cases cs : t1.text = sShut
        · rw [if_pos cs] at h
          simp only [Option.some.injEq] at h
          subst h
          exact tok_lies l _ h1.2
        · rw [if_neg cs] at h
          simp only [Option.some.injEq] at h
          subst h
          exact h1.1
    · rw [if_neg cp] at h
      simp only [Option.some.injEq] at h
      subst h
      exact ht.1

end Go.Proofs.YthpmkpnndbjflaaGreatDoor
/- Plain facts: an expression in parentheses, with white about it, is the expression, further behind. No program. -/
namespace Go.Proofs.YthpmkpnndbjflaaGreatDoor
open Go.RowKit

/-! further behind -/
def Tk.sh (k : Nat) (t : Tk) : Tk := ⟨t.kind, k + t.start, k + t.stop, t.text, t.num, t.over⟩
def Tr.sh (k : Nat) : Tr → Tr
  | .num n p => .num n (k + p)
  | .name s p => .name s (k + p)
  | .un op p a => .un op (k + p) (a.sh k)
  | .bin op p a b => .bin op (k + p) (a.sh k) (b.sh k)
  | .cond op p a b c => .cond op (k + p) (a.sh k) (b.sh k) (c.sh k)
  | .asg op s p q a => .asg op s (k + p) (k + q) (a.sh k)
def Rs.sh (k : Nat) : Rs → Rs
  | .ok t n => .ok (t.sh k) (n.sh k)
  | .bad c p => .bad c (k + p)
def Md.sh (k : Nat) : Md → Md
  | .loop n left => .loop n (left.sh k)
  | .expr => .expr
  | .cond => .cond
  | .bin n => .bin n
  | .opd => .opd

theorem tokL_sh (r : List Int) (k q : Nat) : tokL r (k + q) = (tokL r q).sh k := by
  unfold tokL
  repeat' split
  all_goals simp only [Tk.sh, Nat.add_assoc]
theorem drop_sh (y l : List Int) (q : Nat) : (y ++ l).drop (y.length + q) = l.drop q := by
  rw [List.drop_append, List.drop_of_length_le (by omega), Nat.add_sub_cancel_left]
  rfl
theorem tok_sh (y l : List Int) (q : Nat) : tok (y ++ l) (y.length + q) = (tok l q).sh y.length := by
  have e : skipN (y ++ l) (y.length + q) = y.length + skipN l q := by unfold skipN; rw [drop_sh, Nat.add_assoc]
  unfold tok
  rw [e, drop_sh, tokL_sh]
theorem goesB_sh (y l : List Int) (q : Nat) : goesB (y ++ l) (y.length + q) = goesB l q := by
  unfold goesB
  have e1 : decide (y.length + q < (y ++ l).length) = decide (q < l.length) := by
    rw [List.length_append]
    exact decide_eq_decide.2 ⟨fun h => by omega, fun h => by omega⟩
  have e2 : (y ++ l).getD (y.length + q) 0 = l.getD q 0 := by
    simp only [List.getD]
    rw [List.getElem?_append_right (by omega), Nat.add_sub_cancel_left]
  rw [e1, e2, drop_sh]

theorem rd_sh (y l : List Int) : ∀ (n : Nat) (md : Md) (t : Tk), rd (y ++ l) n (md.sh y.length) (t.sh y.length) = (rd l n md t).map (Rs.sh y.length)
  | 0, md, t => by cases md <;> rfl
  | n + 1, .expr, t => by
    show rd (y ++ l) (n + 1) .expr (t.sh y.length) = _
    have e1 : tok (y ++ l) (t.sh y.length).stop = (tok l t.stop).sh y.length := tok_sh y l t.stop
    have e2 : tok (y ++ l) ((tok l t.stop).sh y.length).stop = (tok l (tok l t.stop).stop).sh y.length := tok_sh y l _
    have ih : rd (y ++ l) n .expr ((tok l (tok l t.stop).stop).sh y.length) = _ := rd_sh y l n .expr (tok l (tok l t.stop).stop)
    simp only [rd]
    rw [e1, e2, ih]
    by_cases c : t.kind = 3 ∧ asgB (tok l t.stop).text = true
    · rw [if_pos (show (t.sh y.length).kind = 3 ∧ asgB ((tok l t.stop).sh y.length).text = true from c), if_pos c]
      generalize rd l n .expr (tok l (tok l t.stop).stop) = x
      match x with
      | none => rfl
      | some (.bad _ _) => rfl
      | some (.ok _ _) => rfl
    · rw [if_neg (show ¬ ((t.sh y.length).kind = 3 ∧ asgB ((tok l t.stop).sh y.length).text = true) from c), if_neg c]
      exact rd_sh y l n .cond t
  | n + 1, .cond, t => by
    show rd (y ++ l) (n + 1) .cond (t.sh y.length) = _
    have ih : rd (y ++ l) n (.bin 1) (t.sh y.length) = _ := rd_sh y l n (.bin 1) t
    simp only [rd]
    rw [ih]
    generalize rd l n (.bin 1) t = x
    match x with
    | none => rfl
    | some (.bad _ _) => rfl
    | some (.ok a t1) =>
      have e1 : tok (y ++ l) (t1.sh y.length).stop = (tok l t1.stop).sh y.length := tok_sh y l t1.stop
      have ih1 : rd (y ++ l) n .expr ((tok l t1.stop).sh y.length) = _ := rd_sh y l n .expr (tok l t1.stop)
      show (if (t1.sh y.length).text = sQue then _ else _) = Option.map (Rs.sh y.length) (if t1.text = sQue then _ else _)
      by_cases c : t1.text = sQue
      · rw [if_pos (show (t1.sh y.length).text = sQue from c), if_pos c, e1, ih1]
        generalize rd l n .expr (tok l t1.stop) = z
        match z with
        | none => rfl
        | some (.bad _ _) => rfl
        | some (.ok b t2) =>
          have e2 : tok (y ++ l) (t2.sh y.length).stop = (tok l t2.stop).sh y.length := tok_sh y l t2.stop
          have ih2 : rd (y ++ l) n .cond ((tok l t2.stop).sh y.length) = _ := rd_sh y l n .cond (tok l t2.stop)
          show (if (t2.sh y.length).text = sCol then _ else _) = Option.map (Rs.sh y.length) (if t2.text = sCol then _ else _)
          by_cases d : t2.text = sCol
          · rw [if_pos (show (t2.sh y.length).text = sCol from d), if_pos d, e2, ih2]
            generalize rd l n .cond (tok l t2.stop) = u
            match u with
            | none => rfl
            | some (.bad _ _) => rfl
            | some (.ok _ _) => rfl
          · rw [if_neg (show ¬ (t2.sh y.length).text = sCol from d), if_neg d]
            rfl
      · rw [if_neg (show ¬ (t1.sh y.length).text = sQue from c), if_neg c]
        rfl
  | n + 1, .bin k, t => by
    show rd (y ++ l) (n + 1) (.bin k) (t.sh y.length) = _
    have ih : rd (y ++ l) n .opd (t.sh y.length) = _ := rd_sh y l n .opd t
    simp only [rd]
    rw [ih]
    generalize rd l n .opd t = x
    match x with
    | none => rfl
    | some (.bad _ _) => rfl
    | some (.ok a t1) => exact rd_sh y l n (.loop k a) t1
  | n + 1, .loop k left, t => by
    show rd (y ++ l) (n + 1) (.loop k (left.sh y.length)) (t.sh y.length) = _
    have e1 : tok (y ++ l) (t.sh y.length).stop = (tok l t.stop).sh y.length := tok_sh y l t.stop
    have ih : rd (y ++ l) n (.bin (strN t.text + 1)) ((tok l t.stop).sh y.length) = _ := rd_sh y l n (.bin (strN t.text + 1)) (tok l t.stop)
    simp only [rd]
    rw [e1, show strN (t.sh y.length).text = strN t.text from rfl, ih]
    by_cases c : k ≤ strN t.text
    · rw [if_pos c, if_pos c]
      generalize rd l n (.bin (strN t.text + 1)) (tok l t.stop) = x
      match x with
      | none => rfl
      | some (.bad _ _) => rfl
      | some (.ok b t2) => exact rd_sh y l n (.loop k (.bin t.text t.start left b)) t2
    · rw [if_neg c, if_neg c]
      rfl
  | n + 1, .opd, t => by
    show rd (y ++ l) (n + 1) .opd (t.sh y.length) = _
    have e1 : tok (y ++ l) (t.sh y.length).stop = (tok l t.stop).sh y.length := tok_sh y l t.stop
    have eg : goesB (y ++ l) (t.sh y.length).stop = goesB l t.stop := goesB_sh y l t.stop
    have iho : rd (y ++ l) n .opd ((tok l t.stop).sh y.length) = _ := rd_sh y l n .opd (tok l t.stop)
    have ihe : rd (y ++ l) n .expr ((tok l t.stop).sh y.length) = _ := rd_sh y l n .expr (tok l t.stop)
    simp only [rd]
    rw [e1, eg, iho, ihe]
    show (if t.kind = 2 then _ else if t.kind = 3 then _ else if ¬ unB t.text = sEmpty then _ else if t.text = sOpen then _ else _) = _
    by_cases c2 : t.kind = 2
    · rw [if_pos c2, if_pos c2]
      show (if t.over = true then _ else _) = _
      by_cases co : t.over = true
      · rw [if_pos co, if_pos co]; rfl
      · rw [if_neg co, if_neg co]
        by_cases cg : goesB l t.stop = true
        · rw [if_pos cg, if_pos cg]; rfl
        · rw [if_neg cg, if_neg cg]; rfl
    rw [if_neg c2, if_neg c2]
    by_cases c3 : t.kind = 3
    · rw [if_pos c3, if_pos c3]; rfl
    rw [if_neg c3, if_neg c3]
    by_cases cu : ¬ unB t.text = sEmpty
    · rw [if_pos cu, if_pos cu]
      generalize rd l n .opd (tok l t.stop) = x
      match x with
      | none => rfl
      | some (.bad _ _) => rfl
      | some (.ok b t2) => rfl
    rw [if_neg cu, if_neg cu]
    by_cases cp : t.text = sOpen
    · rw [if_pos cp, if_pos cp]
      generalize rd l n .expr (tok l t.stop) = x
      match x with
      | none => rfl
      | some (.bad _ _) => rfl
      | some (.ok b t2) =>
        have e2 : tok (y ++ l) (t2.sh y.length).stop = (tok l t2.stop).sh y.length := tok_sh y l t2.stop
        show (if (t2.sh y.length).text = sShut then _ else _) = Option.map (Rs.sh y.length) (if t2.text = sShut then _ else _)
        by_cases d : t2.text = sShut
        · rw [if_pos (show (t2.sh y.length).text = sShut from d), if_pos d, e2]; rfl
        · rw [if_neg (show ¬ (t2.sh y.length).text = sShut from d), if_neg d]; rfl
    · rw [if_neg cp, if_neg cp]; rfl

/-! a parenthesis that shuts, where the text ended -/
theorem pre_all (p : Int → Bool) (y : List Int) : ∀ r : List Int, pre p r = r.length → pre p (r ++ y) = r.length + pre p y
  | [], _ => by simp
  | c :: r, h => by
    unfold pre at h ⊢
    by_cases hc : p c = true
    · rw [List.takeWhile_cons_of_pos hc, List.length_cons, List.length_cons] at h
      have := pre_all p y r (by unfold pre; omega)
      unfold pre at this
      rw [List.cons_append, List.takeWhile_cons_of_pos hc, List.length_cons, List.length_cons, this]
      omega
    · rw [List.takeWhile_cons_of_neg hc] at h
      simp at h
theorem begins_head {c : Int} {m : List Int} {s : ByteArray} (h : begins (c :: m) s = true) (hs : 0 < s.size) : s.data.toList.head? = some (UInt8.ofNat c.toNat) := by
  unfold begins at h
  simp only [Bool.and_eq_true, decide_eq_true_eq] at h
  have hd : s.data.toList = ((c :: m).take s.size).map fun n => UInt8.ofNat n.toNat := (congrArg (fun t : ByteArray => t.data.toList) h.2).symm
  obtain ⟨j, hj⟩ : ∃ j, s.size = j + 1 := ⟨s.size - 1, by omega⟩
  rw [hd, hj]
  rfl
theorem opFrom_skip (l : List Int) : ∀ L1 L2 : List ByteArray, (∀ s ∈ L1, begins l s = false) → opFrom l (L1 ++ L2) = opFrom l L2
  | [], _, _ => rfl
  | s :: L1, L2, h => by
    rw [List.cons_append]
    show (if begins l s = true then s else opFrom l (L1 ++ L2)) = _
    rw [if_neg (by rw [h s (by simp)]; decide)]
    exact opFrom_skip l L1 L2 fun t ht => h t (by simp [ht])
theorem opB_paren (c : Int) (hc : c = 40 ∨ c = 41) (m : List Int) : opB (c :: m) = ofBys [c] := by
  have hh : ∀ s ∈ opList.take 18, 0 < s.size ∧ s.data.toList.head? ≠ some 40 ∧ s.data.toList.head? ≠ some 41 := by decide
  have e : opList = opList.take 18 ++ opList.drop 18 := (List.take_append_drop 18 opList).symm
  unfold opB
  rw [e, opFrom_skip]
  · have e2 : opList.drop 18 = sOpen :: sShut :: opList.drop 20 := rfl
    rw [e2]
    have hb1 : begins (40 :: m) sOpen = true := by simp [begins, sOpen, ofBys, ByteArray.size]
    have hb2 : begins (41 :: m) sShut = true := by simp [begins, sShut, ofBys, ByteArray.size]
    have hb3 : ¬ begins (41 :: m) sOpen = true := fun h => by
      have := begins_head h (by decide)
      exact absurd this (by decide)
    rcases hc with rfl | rfl
    · unfold opFrom; rw [if_pos hb1]; rfl
    · unfold opFrom; rw [if_neg hb3]; unfold opFrom; rw [if_pos hb2]; rfl
  · intro s hs
    obtain ⟨h1, h2, h3⟩ := hh s hs
    rcases hc with rfl | rfl
    · cases hb : begins (40 :: m) s with
      | false => rfl
      | true => exact absurd (begins_head hb h1) h2
    · cases hb : begins (41 :: m) s with
      | false => rfl
      | true => exact absurd (begins_head hb h1) h3
theorem tokL_paren (c : Int) (hc : c = 40 ∨ c = 41) (m : List Int) (q : Nat) : tokL (c :: m) q = ⟨4, q, q + 1, ofBys [c], 0, false⟩ := by
  have h1 : nmN (c :: m) = 0 := (stopN_is _ _).same ⟨Nat.zero_le _, fun j hj => absurd hj (by omega), fun _ => by rcases hc with rfl | rfl <;> simp [nameB, letB, numB]⟩
  have h2 : cN (c :: m) = 0 := by rcases hc with rfl | rfl <;> simp [cN, hexB, cB, gN, rN, pre, dig?, dgt]
  have h3 := opB_paren c hc m
  rw [tk_op (by simp) (by omega) (by omega) (by rw [h3]; rcases hc with rfl | rfl <;> decide), h3]
  congr 1

theorem tokL_kind {r : List Int} {q : Nat} (h : 0 < r.length) : ¬ (tokL r q).kind = 0 := by
  by_cases h1 : 0 < nmN r
  · rw [tk_nm h h1]; show ¬ (3 : Int) = 0; decide
  by_cases h2 : 0 < cN r
  · rw [tk_cn h h1 h2]; show ¬ (2 : Int) = 0; decide
  by_cases h3 : opB r = sEmpty
  · rw [tk_no h h1 h2 h3]; show ¬ (1 : Int) = 0; decide
  · rw [tk_op h h1 h2 h3]; show ¬ (4 : Int) = 0; decide
theorem unB_emp : unB sEmpty = sEmpty := by decide
/-- No expression begins where the text ends. -/
theorem rd_none (l : List Int) (t : Tk) (hk : t.kind = 0) (hx : t.text = sEmpty) (n : Nat) :
    (∀ e t1, ¬ rd l n .opd t = some (.ok e t1)) ∧ (∀ k e t1, ¬ rd l n (.bin k) t = some (.ok e t1)) ∧ (∀ e t1, ¬ rd l n .cond t = some (.ok e t1)) ∧ (∀ e t1, ¬ rd l n .expr t = some (.ok e t1)) := by
  have ho : ∀ n e t1, ¬ rd l n .opd t = some (.ok e t1) := by
    intro n e t1 h
    cases n with
    | zero => simp [rd] at h
    | succ n =>
      simp only [rd] at h
      rw [if_neg (by omega), if_neg (by omega), if_neg (by rw [hx, unB_emp]; simp), if_neg (by rw [hx]; decide)] at h
      simp [refuse] at h
  have hb : ∀ n k e t1, ¬ rd l n (.bin k) t = some (.ok e t1) := by
    intro n k e t1 h
    cases n with
    | zero => simp [rd] at h
    | succ n =>
      simp only [rd] at h
      generalize hy : rd l n .opd t = y at h
      match y, hy, h with
      | none, _, h => simp at h
      | some (.bad _ _), _, h => simp at h
      | some (.ok _ _), hy, _ => exact ho _ _ _ hy
  have hc : ∀ n e t1, ¬ rd l n .cond t = some (.ok e t1) := by
    intro n e t1 h
    cases n with
    | zero => simp [rd] at h
    | succ n =>
      simp only [rd] at h
      generalize hy : rd l n (.bin 1) t = y at h
      match y, hy, h with
      | none, _, h => simp at h
      | some (.bad _ _), _, h => simp at h
      | some (.ok _ _), hy, _ => exact hb _ _ _ _ hy
  refine ⟨ho n, hb n, hc n, ?_⟩
  intro e t1 h
  cases n with
  | zero => simp [rd] at h
  | succ n =>
    simp only [rd] at h
    rw [if_neg (by omega)] at h
    exact hc _ _ _ h

end Go.Proofs.YthpmkpnndbjflaaGreatDoor
