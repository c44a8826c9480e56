/- KTx: several texts in one (kmerge.py). -/
import Derived.Test.YthpmkpnndbjflaaGreatDoorKWr
import Derived.Test.YthpmkpnndbjflaaGreatDoorArText
import Derived.Lib.ItoaLen
/- Plain facts: the text of a tree that reading tells, and that it is short. No program. -/
namespace Go.Proofs.YthpmkpnndbjflaaGreatDoor
open Go.RowKit

def opTxt (op nm : ByteArray) (ks : List (List UInt8)) : List UInt8 :=
  (⟨#[40]⟩ ++ op : ByteArray).data.toList ++ (if nm = sEmpty then [] else (⟨#[32]⟩ ++ nm : ByteArray).data.toList) ++ (ks.map fun k => (32 : UInt8) :: k).flatten ++ [41]
/-- The text of a tree. -/
def txt : Tr → List UInt8
  | .num n _ => Lib.itoa n
  | .name s _ => s.data.toList
  | .un op _ a => opTxt op sEmpty [txt a]
  | .bin op _ a b => opTxt op sEmpty [txt a, txt b]
  | .cond op _ a b c => opTxt op sEmpty [txt a, txt b, txt c]
  | .asg op s _ _ a => opTxt op s [txt a]

theorem dl_len (s : ByteArray) : s.data.toList.length = s.size := Array.length_toList
theorem opTxt_len (op nm : ByteArray) (ks : List (List UInt8)) : (opTxt op nm ks).length ≤ 3 + op.size + nm.size + (ks.map fun k => k.length + 1).sum := by
  unfold opTxt
  have e1 : (⟨#[40]⟩ ++ op : ByteArray).size = 1 + op.size := ByteArray.size_append
  have e2 : (⟨#[32]⟩ ++ nm : ByteArray).size = 1 + nm.size := ByteArray.size_append
  have e3 : (ks.map fun k => (32 : UInt8) :: k).flatten.length = (ks.map fun k => k.length + 1).sum := by
    rw [List.length_flatten, List.map_map]
    rfl
  simp only [List.length_append, dl_len, e1, e3, List.length_singleton]
  split
  · simp only [List.length_nil]; omega
  · simp only [dl_len, e2]; omega

/-- How long a token's text is. -/
structure Tk.Sz (l : List Int) (t : Tk) : Prop where
  tx : t.text.size ≤ t.stop - t.start
  ok : t.Ok l
  nm : t.Nm

theorem tok_sz (l : List Int) (p : Nat) : (tok l p).Sz l := by
  refine ⟨?_, tok_ok l p, tok_nm l p⟩
  unfold tok
  generalize skipN l p = q
  generalize l.drop q = r
  have h00 : sEmpty.size = 0 := rfl
  by_cases h0 : r.length = 0
  · have e : tokL r q = ⟨0, q, q, sEmpty, 0, false⟩ := by unfold tokL; rw [if_pos h0]
    rw [e]
    exact Nat.zero_le _
  have h0 : 0 < r.length := by omega
  by_cases h1 : 0 < nmN r
  · rw [tk_nm h0 h1]
    show (ofBys (r.take (nmN r))).size ≤ q + nmN r - q
    rw [ofBys_size, List.length_take]
    omega
  by_cases h2 : 0 < cN r
  · rw [tk_cn h0 h1 h2]
    exact Nat.zero_le _
  by_cases h3 : opB r = sEmpty
  · rw [tk_no h0 h1 h2 h3]
    exact Nat.zero_le _
  · rw [tk_op h0 h1 h2 h3]
    show (opB r).size ≤ q + (opB r).size - q
    omega

theorem mu_sz {l : List Int} {t : Tk} (h : t.Sz l) (hk : t.kind = 2 ∨ t.kind = 3 ∨ t.kind = 4) : mu l (tok l t.stop) + t.text.size ≤ mu l t ∧ mu l (tok l t.stop) + 1 ≤ mu l t := by
  refine ⟨?_, mu_lt h.ok hk⟩
  obtain ⟨a, b⟩ := h.ok.run hk
  have := tok_start l t.stop
  have := h.tx
  unfold mu
  omega
theorem mu_szt {l : List Int} {t : Tk} (h : t.Sz l) (hk : ¬ t.text = sEmpty) : mu l (tok l t.stop) + t.text.size ≤ mu l t ∧ mu l (tok l t.stop) + 1 ≤ mu l t :=
  mu_sz h (Or.inr (h.ok.txt hk))

theorem unB_size (s : ByteArray) : (unB s).size ≤ 2 := by
  unfold unB
  split
  · rename_i c
    rcases c with rfl | rfl <;> decide
  · split
    · rename_i c
      rcases c with rfl | rfl <;> decide
    · decide

def Md.len : Md → Nat
  | .loop _ t => (txt t).length
  | _ => 0

theorem rd_len (l : List Int) : ∀ (n : Nat) (md : Md) (t : Tk), t.Sz l → md.Ok → ∀ e t', rd l n md t = some (.ok e t') → t'.Sz l ∧ (txt e).length + 32 * mu l t' ≤ md.len + 32 * mu l t
  | 0, md, t, _, _, e, t', h => by cases md <;> simp [rd] at h
  | n + 1, .expr, t, ht, _, e, t', h => by
    simp only [rd] at h
    by_cases c : t.kind = 3 ∧ asgB (tok l t.stop).text = true
    · rw [if_pos c] at h
      generalize hx : rd l n .expr (tok l (tok l t.stop).stop) = x at h
      match x, hx, h with
      | some (.ok a t1), hx, h =>
        simp only [Option.some.injEq, Rs.ok.injEq] at h
        obtain ⟨rfl, rfl⟩ := h
        obtain ⟨h1, ha⟩ := rd_len l n .expr _ (tok_sz _ _) trivial _ _ hx
        have m1 := mu_sz ht (Or.inr (Or.inl c.1))
        have m2 := mu_szt (tok_sz l t.stop) (asgB_txt c.2)
        have := opTxt_len (tok l t.stop).text t.text [txt a]
        simp only [List.map_cons, List.map_nil, List.sum_cons, List.sum_nil] at this
        refine ⟨h1, ?_⟩
        simp only [txt, Md.len] at ha ⊢
        omega
    · rw [if_neg c] at h
      exact rd_len l n .cond t ht trivial _ _ h
  | n + 1, .cond, t, ht, _, e, t', h => by
    simp only [rd] at h
    generalize hx : rd l n (.bin 1) t = x at h
    match x, hx, h with
    | some (.ok a t1), hx, h =>
      obtain ⟨h1, ha⟩ := rd_len l n (.bin 1) t ht (Nat.le_refl 1) _ _ hx
      simp only [] at h
      by_cases c : t1.text = sQue
      · rw [if_pos c] at h
        have m1 := mu_szt h1 (by rw [c]; decide)
        generalize hy : rd l n .expr (tok l t1.stop) = y at h
        match y, hy, h with
        | some (.ok b t2), hy, h =>
          obtain ⟨h2, hb⟩ := rd_len l n .expr _ (tok_sz _ _) trivial _ _ hy
          simp only [] at h
          by_cases d : t2.text = sCol
          · rw [if_pos d] at h
            have m2 := mu_szt h2 (by rw [d]; decide)
            generalize hz : rd l n .cond (tok l t2.stop) = z at h
            match z, hz, h with
            | some (.ok f t3), hz, h =>
              obtain ⟨h3, hf⟩ := rd_len l n .cond _ (tok_sz _ _) trivial _ _ hz
              simp only [Option.some.injEq, Rs.ok.injEq] at h
              obtain ⟨rfl, rfl⟩ := h
              have := opTxt_len t1.text sEmpty [txt a, txt b, txt f]
              simp only [List.map_cons, List.map_nil, List.sum_cons, List.sum_nil] at this
              have h00 : sEmpty.size = 0 := rfl
              refine ⟨h3, ?_⟩
              simp only [txt, Md.len] at ha hb hf ⊢
              omega
          · rw [if_neg d] at h
            simp [refuse] at h
      · rw [if_neg c] at h
        simp only [Option.some.injEq, Rs.ok.injEq] at h
        obtain ⟨rfl, rfl⟩ := h
        exact ⟨h1, ha⟩
  | n + 1, .bin k, t, ht, hk, e, t', h => by
    simp only [rd] at h
    generalize hx : rd l n .opd t = x at h
    match x, hx, h with
    | some (.ok a t1), hx, h =>
      obtain ⟨h1, ha⟩ := rd_len l n .opd t ht trivial _ _ hx
      obtain ⟨h2, hb⟩ := rd_len l n (.loop k a) t1 h1 hk _ _ h
      refine ⟨h2, ?_⟩
      simp only [Md.len] at ha hb ⊢
      omega
  | n + 1, .loop k left, t, ht, hk, e, t', h => by
    simp only [rd] at h
    by_cases c : k ≤ strN t.text
    · rw [if_pos c] at h
      have m1 := mu_szt ht (strN_txt hk c)
      generalize hx : rd l n (.bin (strN t.text + 1)) (tok l t.stop) = x at h
      match x, hx, h with
      | some (.ok b t2), hx, h =>
        obtain ⟨h2, hb⟩ := rd_len l n (.bin (strN t.text + 1)) _ (tok_sz _ _) (Nat.le_add_left 1 _) _ _ hx
        obtain ⟨h3, hf⟩ := rd_len l n (.loop k (.bin t.text t.start left b)) t2 h2 hk _ _ h
        have := opTxt_len t.text sEmpty [txt left, txt b]
        simp only [List.map_cons, List.map_nil, List.sum_cons, List.sum_nil] at this
        have h00 : sEmpty.size = 0 := rfl
        refine ⟨h3, ?_⟩
        simp only [txt, Md.len] at hb hf ⊢
        omega
    · rw [if_neg c] at h
      simp only [Option.some.injEq, Rs.ok.injEq] at h
      obtain ⟨rfl, rfl⟩ := h
      exact ⟨ht, Nat.le_refl _⟩
  | n + 1, .opd, t, ht, _, e, t', h => by
    simp only [rd] at h
    by_cases c2 : t.kind = 2
    · rw [if_pos c2] at h
      have m1 := mu_sz ht (Or.inl c2)
      by_cases co : t.over = true
      · rw [if_pos co] at h; simp [refuse] at h
      · rw [if_neg co] at h
        by_cases cg : goesB l t.stop = true
        · rw [if_pos cg] at h; simp at h
        · rw [if_neg cg] at h
          simp only [Option.some.injEq, Rs.ok.injEq] at h
          obtain ⟨rfl, rfl⟩ := h
          have h0 := ht.nm.lo
          have := Lib.itoa_length_le t.num (by omega) ht.nm.hi
          refine ⟨tok_sz _ _, ?_⟩
          simp only [txt, Md.len]
          omega
    rw [if_neg c2] at h
    by_cases c3 : t.kind = 3
    · rw [if_pos c3] at h
      have m1 := mu_sz ht (Or.inr (Or.inl c3))
      simp only [Option.some.injEq, Rs.ok.injEq] at h
      obtain ⟨rfl, rfl⟩ := h
      refine ⟨tok_sz _ _, ?_⟩
      simp only [txt, Md.len, dl_len]
      omega
    rw [if_neg c3] at h
    by_cases cu : ¬ unB t.text = sEmpty
    · rw [if_pos cu] at h
      have m1 := mu_szt ht (unB_txt cu)
      generalize hx : rd l n .opd (tok l t.stop) = x at h
      match x, hx, h with
      | some (.ok a t1), hx, h =>
        simp only [Option.some.injEq, Rs.ok.injEq] at h
        obtain ⟨rfl, rfl⟩ := h
        obtain ⟨h1, ha⟩ := rd_len l n .opd _ (tok_sz _ _) trivial _ _ hx
        have := opTxt_len (unB t.text) sEmpty [txt a]
        simp only [List.map_cons, List.map_nil, List.sum_cons, List.sum_nil] at this
        have h00 : sEmpty.size = 0 := rfl
        have := unB_size t.text
        refine ⟨h1, ?_⟩
        simp only [txt, Md.len] at ha ⊢
        omega
    rw [if_neg cu] at h
    by_cases cp : t.text = sOpen
    · rw [if_pos cp] at h
      have m1 := mu_szt ht (by rw [cp]; decide)
      generalize hx : rd l n .expr (tok l t.stop) = x at h
      match x, hx, h with
      | some (.ok a t1), hx, h =>
        obtain ⟨h1, ha⟩ := rd_len l n .expr _ (tok_sz _ _) trivial _ _ hx
        simp only [] at h
        by_cases cs : t1.text = sShut
        · rw [if_pos cs] at h
          have m2 := mu_szt h1 (by rw [cs]; decide)
          simp only [Option.some.injEq, Rs.ok.injEq] at h
          obtain ⟨rfl, rfl⟩ := h
          refine ⟨tok_sz _ _, ?_⟩
          simp only [Md.len] at ha ⊢
          omega
        · rw [if_neg cs] at h
          simp [refuse] at h
    · rw [if_neg cp] at h
      simp [refuse] at h

/-- The text of a tree that Parse tells is short. -/
theorem parseP_len {l : List Int} {n : Nat} {e : Tr} {t : Tk} (h : parseP l n = some (.ok e t)) : (txt e).length ≤ 32768 := by
  obtain ⟨-, -, hl⟩ := parseP_wf h
  unfold parseP at h
  rw [if_neg (by omega)] at h
  unfold readP at h
  generalize hx : rd l n .expr (tok l 0) = x at h
  match x, hx, h with
  | some (.ok a t1), hx, h =>
    obtain ⟨-, ha⟩ := rd_len l n .expr _ (tok_sz _ _) trivial _ _ hx
    have hm : mu l (tok l 0) ≤ l.length := Nat.sub_le _ _
    simp only [Md.len] at ha
    simp only [] at h
    by_cases c : t1.kind = 0
    · rw [if_pos c] at h
      simp only [Option.some.injEq, Rs.ok.injEq] at h
      obtain ⟨rfl, rfl⟩ := h
      omega
    · rw [if_neg c] at h
      simp [refuse] at h

end Go.Proofs.YthpmkpnndbjflaaGreatDoor
/- The contracts of Size. -/
namespace Go.Proofs.YthpmkpnndbjflaaGreatDoor
open Go.RowKit

/-- What one part counts. -/
def oneN (op : ByteArray) : Nat := if asgB op = true then 2 else 1

end Go.Proofs.YthpmkpnndbjflaaGreatDoor
/- The contracts of each at any tree, of Size. -/
namespace Go.Proofs.YthpmkpnndbjflaaGreatDoor
open Go.RowKit

/-- How many constants, names and operators a tree has. -/
def sizeT : Tr → Nat
  | .num _ _ => oneN sNum
  | .name _ _ => oneN sName
  | .un op _ a => oneN op + [sizeT a].sum
  | .bin op _ a b => oneN op + [sizeT a, sizeT b].sum
  | .cond op _ a b c => oneN op + [sizeT a, sizeT b, sizeT c].sum
  | .asg op _ _ _ a => oneN op + [sizeT a].sum

theorem opTxt_ge (op nm : ByteArray) (ks : List (List UInt8)) : 2 + op.size + (ks.map fun k => k.length + 1).sum ≤ (opTxt op nm ks).length := by
  unfold opTxt
  have e1 : (⟨#[40]⟩ ++ op : ByteArray).size = 1 + op.size := ByteArray.size_append
  have e3 : (ks.map fun k => (32 : UInt8) :: k).flatten.length = (ks.map fun k => k.length + 1).sum := by
    rw [List.length_flatten, List.map_map]
    rfl
  simp only [List.length_append, dl_len, e1, e3, List.length_singleton]
  omega

theorem oneN_le (op : ByteArray) : oneN op ≤ 2 := by unfold oneN; split <;> omega
end Go.Proofs.YthpmkpnndbjflaaGreatDoor
/- Plain facts: no more things than bytes; an error lies in the text. No program. -/
namespace Go.Proofs.YthpmkpnndbjflaaGreatDoor
open Go.RowKit

theorem strN_asg {s : ByteArray} {k : Nat} (hk : 1 ≤ k) (h : k ≤ strN s) : asgB s = false := by
  unfold strN opRows at h
  simp only [rowFrom, List.any_cons, List.any_nil, Bool.or_false, Bool.or_eq_true, decide_eq_true_eq] at h
  repeat' (split at h)
  all_goals first
    | omega
    | (rename_i hh; rcases hh with rfl | rfl | rfl | rfl <;> decide)
    | (rename_i hh; rcases hh with rfl | rfl | rfl <;> decide)
    | (rename_i hh; rcases hh with rfl | rfl <;> decide)
    | (rename_i hh; subst hh; decide)
theorem one_str {s : ByteArray} {k : Nat} (hk : 1 ≤ k) (h : k ≤ strN s) : oneN s = 1 := by unfold oneN; rw [strN_asg hk h]; rfl
theorem one_que (t : Tk) (h : t.text = sQue) : oneN t.text = 1 := by rw [h]; decide
theorem one_un (s : ByteArray) : oneN (unB s) = 1 := by
  unfold unB
  split
  · rename_i c
    rcases c with rfl | rfl <;> decide
  · split
    · rename_i c
      rcases c with rfl | rfl <;> decide
    · decide

def Md.siz : Md → Nat
  | .loop _ t => sizeT t
  | _ => 0

theorem rd_size (l : List Int) : ∀ (n : Nat) (md : Md) (t : Tk), t.Sz l → md.Ok → ∀ e t', rd l n md t = some (.ok e t') → t'.Sz l ∧ sizeT e + mu l t' ≤ md.siz + mu l t
  | 0, md, t, _, _, e, t', h => by cases md <;> simp [rd] at h
  | n + 1, .expr, t, ht, _, e, t', h => by
    simp only [rd] at h
    by_cases c : t.kind = 3 ∧ asgB (tok l t.stop).text = true
    · rw [if_pos c] at h
      generalize hx : rd l n .expr (tok l (tok l t.stop).stop) = x at h
      match x, hx, h with
      | some (.ok a t1), hx, h =>
        simp only [Option.some.injEq, Rs.ok.injEq] at h
        obtain ⟨rfl, rfl⟩ := h
        obtain ⟨h1, ha⟩ := rd_size l n .expr _ (tok_sz _ _) trivial _ _ hx
        have m1 := mu_sz ht (Or.inr (Or.inl c.1))
        have m2 := mu_szt (tok_sz l t.stop) (asgB_txt c.2)
        have := oneN_le (tok l t.stop).text
        refine ⟨h1, ?_⟩
        simp only [sizeT, List.sum_cons, List.sum_nil, Md.siz] at ha ⊢
        omega
    · rw [if_neg c] at h
      exact rd_size l n .cond t ht trivial _ _ h
  | n + 1, .cond, t, ht, _, e, t', h => by
    simp only [rd] at h
    generalize hx : rd l n (.bin 1) t = x at h
    match x, hx, h with
    | some (.ok a t1), hx, h =>
      obtain ⟨h1, ha⟩ := rd_size l n (.bin 1) t ht (Nat.le_refl 1) _ _ hx
      simp only [] at h
      by_cases c : t1.text = sQue
      · rw [if_pos c] at h
        have m1 := mu_szt h1 (by rw [c]; decide)
        generalize hy : rd l n .expr (tok l t1.stop) = y at h
        match y, hy, h with
        | some (.ok b t2), hy, h =>
          obtain ⟨h2, hb⟩ := rd_size l n .expr _ (tok_sz _ _) trivial _ _ hy
          simp only [] at h
          by_cases d : t2.text = sCol
          · rw [if_pos d] at h
            have m2 := mu_szt h2 (by rw [d]; decide)
            generalize hz : rd l n .cond (tok l t2.stop) = z at h
            match z, hz, h with
            | some (.ok f t3), hz, h =>
              have := one_que t1 c
              obtain ⟨h3, hf⟩ := rd_size l n .cond _ (tok_sz _ _) trivial _ _ hz
              simp only [Option.some.injEq, Rs.ok.injEq] at h
              obtain ⟨rfl, rfl⟩ := h
              refine ⟨h3, ?_⟩
              simp only [sizeT, List.sum_cons, List.sum_nil, Md.siz] at ha hb hf ⊢
              omega
          · rw [if_neg d] at h
            simp [refuse] at h
      · rw [if_neg c] at h
        simp only [Option.some.injEq, Rs.ok.injEq] at h
        obtain ⟨rfl, rfl⟩ := h
        exact ⟨h1, ha⟩
  | n + 1, .bin k, t, ht, hk, e, t', h => by
    simp only [rd] at h
    generalize hx : rd l n .opd t = x at h
    match x, hx, h with
    | some (.ok a t1), hx, h =>
      obtain ⟨h1, ha⟩ := rd_size l n .opd t ht trivial _ _ hx
      obtain ⟨h2, hb⟩ := rd_size l n (.loop k a) t1 h1 hk _ _ h
      refine ⟨h2, ?_⟩
      simp only [Md.siz] at ha hb ⊢
      omega
  | n + 1, .loop k left, t, ht, hk, e, t', h => by
    simp only [rd] at h
    by_cases c : k ≤ strN t.text
    · rw [if_pos c] at h
      have m1 := mu_szt ht (strN_txt hk c)
      generalize hx : rd l n (.bin (strN t.text + 1)) (tok l t.stop) = x at h
      match x, hx, h with
      | some (.ok b t2), hx, h =>
        have := one_str hk c
        obtain ⟨h2, hb⟩ := rd_size l n (.bin (strN t.text + 1)) _ (tok_sz _ _) (Nat.le_add_left 1 _) _ _ hx
        obtain ⟨h3, hf⟩ := rd_size l n (.loop k (.bin t.text t.start left b)) t2 h2 hk _ _ h
        refine ⟨h3, ?_⟩
        simp only [sizeT, List.sum_cons, List.sum_nil, Md.siz] at hb hf ⊢
        omega
    · rw [if_neg c] at h
      simp only [Option.some.injEq, Rs.ok.injEq] at h
      obtain ⟨rfl, rfl⟩ := h
      exact ⟨ht, Nat.le_refl _⟩
  | n + 1, .opd, t, ht, _, e, t', h => by
    simp only [rd] at h
    by_cases c2 : t.kind = 2
    · rw [if_pos c2] at h
      have m1 := mu_sz ht (Or.inl c2)
      by_cases co : t.over = true
      · rw [if_pos co] at h; simp [refuse] at h
      · rw [if_neg co] at h
        by_cases cg : goesB l t.stop = true
        · rw [if_pos cg] at h; simp at h
        · rw [if_neg cg] at h
          simp only [Option.some.injEq, Rs.ok.injEq] at h
          obtain ⟨rfl, rfl⟩ := h
          have : oneN sNum = 1 := by decide
          refine ⟨tok_sz _ _, ?_⟩
          simp only [sizeT, Md.siz]
          omega
    rw [if_neg c2] at h
    by_cases c3 : t.kind = 3
    · rw [if_pos c3] at h
      have m1 := mu_sz ht (Or.inr (Or.inl c3))
      simp only [Option.some.injEq, Rs.ok.injEq] at h
      obtain ⟨rfl, rfl⟩ := h
      refine ⟨tok_sz _ _, ?_⟩
      have : oneN sName = 1 := by decide
      simp only [sizeT, Md.siz]
      omega
    rw [if_neg c3] at h
    by_cases cu : ¬ unB t.text = sEmpty
    · rw [if_pos cu] at h
      have m1 := mu_szt ht (unB_txt cu)
      generalize hx : rd l n .opd (tok l t.stop) = x at h
      match x, hx, h with
      | some (.ok a t1), hx, h =>
        simp only [Option.some.injEq, Rs.ok.injEq] at h
        obtain ⟨rfl, rfl⟩ := h
        obtain ⟨h1, ha⟩ := rd_size l n .opd _ (tok_sz _ _) trivial _ _ hx
        have := one_un t.text
        refine ⟨h1, ?_⟩
        simp only [sizeT, List.sum_cons, List.sum_nil, Md.siz] at ha ⊢
        omega
    rw [if_neg cu] at h
    by_cases cp : t.text = sOpen
    · rw [if_pos cp] at h
      have m1 := mu_szt ht (by rw [cp]; decide)
      generalize hx : rd l n .expr (tok l t.stop) = x at h
      match x, hx, h with
      | some (.ok a t1), hx, h =>
        obtain ⟨h1, ha⟩ := rd_size l n .expr _ (tok_sz _ _) trivial _ _ hx
        simp only [] at h
        by_cases cs : t1.text = sShut
        · rw [if_pos cs] at h
          have m2 := mu_szt h1 (by rw [cs]; decide)
          simp only [Option.some.injEq, Rs.ok.injEq] at h
          obtain ⟨rfl, rfl⟩ := h
          refine ⟨tok_sz _ _, ?_⟩
          simp only [Md.siz] at ha ⊢
          omega
        · rw [if_neg cs] at h
          simp [refuse] at h
    · rw [if_neg cp] at h
      simp [refuse] at h

theorem sizeT_pos (t : Tr) : 1 ≤ sizeT t := by
  have h : ∀ s, 1 ≤ oneN s := fun s => by unfold oneN; split <;> omega
  cases t <;> simp only [sizeT] <;> first | exact h _ | exact Nat.le_trans (h _) (Nat.le_add_right _ _)

/-- No more things than bytes. -/
theorem parseP_size {l : List Int} {n : Nat} {e : Tr} {t : Tk} (h : parseP l n = some (.ok e t)) : 1 ≤ sizeT e ∧ sizeT e ≤ l.length := by
  refine ⟨sizeT_pos e, ?_⟩
  obtain ⟨-, -, hl⟩ := parseP_wf h
  unfold parseP at h
  rw [if_neg (by omega)] at h
  unfold readP at h
  generalize hx : rd l n .expr (tok l 0) = x at h
  match x, hx, h with
  | some (.ok a t1), hx, h =>
    obtain ⟨-, ha⟩ := rd_size l n .expr _ (tok_sz _ _) trivial _ _ hx
    have hm : mu l (tok l 0) ≤ l.length := Nat.sub_le _ _
    simp only [Md.siz] at ha
    simp only [] at h
    by_cases c : t1.kind = 0
    · rw [if_pos c] at h
      simp only [Option.some.injEq, Rs.ok.injEq] at h
      obtain ⟨rfl, rfl⟩ := h
      omega
    · rw [if_neg c] at h
      simp [refuse] at h

end Go.Proofs.YthpmkpnndbjflaaGreatDoor
