/- Plain facts: the names and operators of the trees that reading tells. No program. -/
import Derived.Test.YtlmoeldillpamaaDoorArDec
import Derived.Test.YtlmoeldillpamaaDoorArTx
namespace Go.Proofs.YtlmoeldillpamaaDoor
open Go.RowKit

def unL : List ByteArray := [⟨#[117, 43]⟩, ⟨#[117, 45]⟩, ⟨#[33]⟩, ⟨#[126]⟩]
/-- A text that is a name. -/
def NmOk (s : ByteArray) : Prop := ¬ s = sEmpty ∧ nmN (bys s) = s.size
/-- Names are names, operators operators. -/
def Tr.Ops : Tr → Prop
  | .num n _ => 0 ≤ n ∧ n ≤ 9223372036854775807
  | .name s _ => NmOk s
  | .un op _ a => op ∈ unL ∧ a.Ops
  | .bin op _ a b => 1 ≤ strN op ∧ a.Ops ∧ b.Ops
  | .cond op _ a b c => op = sQue ∧ a.Ops ∧ b.Ops ∧ c.Ops
  | .asg op s _ _ a => asgB op = true ∧ op ∈ opList ∧ NmOk s ∧ a.Ops

theorem bytT {l : List Int} (h : Byt l) (j : Nat) : Byt (l.take j) := fun i => by
  have := h i
  simp only [List.getD_eq_getElem?_getD, List.getElem?_take] at this ⊢
  split
  · exact this
  · simp
theorem bytD {l : List Int} (h : Byt l) (j : Nat) : Byt (l.drop j) := fun i => by
  have := h (j + i)
  simpa only [List.getD_eq_getElem?_getD, List.getElem?_drop] using this
/-- A name's bytes, each in its place. -/
theorem nmN_is (l : List Int) : IsStop (nameB l) l.length (nmN l) := stopN_is _ _
theorem nmN_name {l r : List Int} (h : nmN l = l.length) (hr : ∀ x m, r = x :: m → letB x = false ∧ (l ≠ [] → numB x = false)) : nmN (l ++ r) = l.length := by
  have hl := nmN_is l
  rw [h] at hl
  refine (nmN_is (l ++ r)).same ⟨by simp, fun j hj => ?_, fun hj => ?_⟩
  · have := hl.2.1 j hj
    unfold nameB at this ⊢
    rw [List.getD_eq_getElem?_getD, List.getElem?_append_left hj, ← List.getD_eq_getElem?_getD]
    exact this
  · cases r with
    | nil => simp at hj
    | cons x m =>
      obtain ⟨h1, h2⟩ := hr x m rfl
      unfold nameB
      have e : (l ++ x :: m).getD l.length 0 = x := by rw [List.getD_eq_getElem?_getD, List.getElem?_append_right (Nat.le_refl _)]; simp
      rw [e, h1]
      by_cases hne : l = []
      · subst hne; simp
      · simp [h2 hne]
theorem nmN_take (r : List Int) : nmN (r.take (nmN r)) = nmN r := by
  have h := nmN_is r
  generalize nmN r = k at h
  have hlen : (r.take k).length = k := by rw [List.length_take]; have := h.1; omega
  refine (nmN_is (r.take k)).same ⟨by omega, fun j hj => ?_, fun hj => by omega⟩
  have := h.2.1 j hj
  unfold nameB at this ⊢
  rw [List.getD_eq_getElem?_getD, List.getElem?_take, if_pos hj, ← List.getD_eq_getElem?_getD]
  exact this
theorem nmOk_take (r : List Int) (hb : Byt r) (h : 0 < nmN r) : NmOk (ofBys (r.take (nmN r))) := by
  have hle := (nmN_is r).1
  have hby : Byt (r.take (nmN r)) := bytT hb _
  refine ⟨fun e => ?_, ?_⟩
  · have := congrArg ByteArray.size e
    rw [ofBys_size, List.length_take] at this
    have : sEmpty.size = 0 := rfl
    omega
  · rw [bys_ofBys hby, nmN_take, ofBys_size, List.length_take]
    omega
/-- What a token's text is. -/
structure Tk.Is (t : Tk) : Prop where
  lo : 0 ≤ t.num
  hi : t.num ≤ 9223372036854775807
  nm : t.kind = 3 → NmOk t.text
  op : ¬ t.kind = 3 → t.text = sEmpty ∨ t.text ∈ opList
theorem tok_is (l : List Int) (hb : Byt l) (p : Nat) : (tok l p).Is := by
  have hn := tok_nm l p
  refine ⟨hn.lo, hn.hi, ?_, ?_⟩
  all_goals
    clear hn
    unfold tok
    generalize skipN l p = q
    have hb' : Byt (l.drop q) := bytD hb q
    generalize l.drop q = r at hb' ⊢
    unfold tokL
    split
    · intro h; first | (simp at h; done) | exact Or.inl rfl
    · split
      · intro h
        first
          | exact nmOk_take r hb' (by assumption)
          | exact absurd rfl h
      · split
        · intro h; first | (simp at h; done) | exact Or.inl rfl
        · split
          · intro h; first | (simp at h; done) | exact (opFrom_mem _ _).imp id And.left
          · intro h; first | (simp at h; done) | exact Or.inl rfl

theorem nm_noAsg {s : ByteArray} (h : NmOk s) : asgB s = false := by
  obtain ⟨hne, h⟩ := h
  have hpos := size_pos hne
  have hlen := bys_length s
  have hh := (nmN_is (bys s)).2.1 (s.size - 1) (by omega)
  unfold asgB
  have : Lib.hasSuffix s.data.toList [61] = false := by
    rw [Bool.eq_false_iff]
    intro hc
    have hsuf : [61] <:+ s.data.toList := by simpa [Lib.hasSuffix] using hc
    obtain ⟨y, hy⟩ := hsuf
    have hb : bys s = y.map (fun c => (c.toNat : Int)) ++ [61] := by
      show s.data.toList.map _ = _
      rw [← hy]; simp
    have hy' : y.length = s.size - 1 := by
      have := congrArg List.length hb
      simp at this
      omega
    unfold nameB at hh
    rw [hb, List.getD_eq_getElem?_getD, List.getElem?_append_right (by simp; omega)] at hh
    simp [hy', letB, numB] at hh
  rw [this, Bool.and_false]

theorem mem_ex {s : ByteArray} {L : List ByteArray} (h : ∃ x ∈ L, x = s) : s ∈ L := by
  obtain ⟨x, hx, e⟩ := h
  rw [← e]
  exact hx
theorem unB_mem {s : ByteArray} (h : ¬ unB s = sEmpty) : unB s ∈ unL := by
  unfold unB at h ⊢
  split
  · rename_i c
    rcases c with rfl | rfl <;> exact mem_ex (by decide)
  · rename_i c
    rw [if_neg c] at h
    split
    · rename_i d
      rcases d with rfl | rfl <;> exact mem_ex (by decide)
    · rename_i d
      rw [if_neg d] at h
      exact absurd rfl h

def Md.LOps : Md → Prop
  | .loop _ t => t.Ops
  | _ => True

theorem rd_ops (l : List Int) (hb : Byt l) : ∀ (n : Nat) (md : Md) (t : Tk), t.Is → md.Ok → md.LOps → ∀ e t', rd l n md t = some (.ok e t') → e.Ops ∧ t'.Is
  | 0, md, t, _, _, _, e, t', h => by cases md <;> simp [rd] at h
  | n + 1, .expr, t, ht, _, _, e, t', h => by
    simp only [rd] at h
    by_cases c : t.kind = 3 ∧ asgB (tok l t.stop).text = true
    · rw [if_pos c] at h
      generalize hx : rd l n .expr (tok l (tok l t.stop).stop) = x at h
      match x, hx, h with
      | some (.ok a t1), hx, h =>
        simp only [Option.some.injEq, Rs.ok.injEq] at h
        obtain ⟨rfl, rfl⟩ := h
        obtain ⟨ha, h1⟩ := rd_ops l hb n .expr _ (tok_is _ hb _) trivial trivial _ _ hx
        have hop : (tok l t.stop).text ∈ opList := by
          have hi := tok_is l hb t.stop
          by_cases hk : (tok l t.stop).kind = 3
          · exact absurd c.2 (by rw [nm_noAsg (hi.nm hk)]; decide)
          · rcases hi.op hk with he | he
            · exact absurd c.2 (by rw [he]; decide)
            · exact he
        exact ⟨⟨c.2, hop, ht.nm c.1, ha⟩, h1⟩
    · rw [if_neg c] at h
      exact rd_ops l hb n .cond t ht trivial trivial _ _ h
  | n + 1, .cond, t, ht, _, _, e, t', h => by
    simp only [rd] at h
    generalize hx : rd l n (.bin 1) t = x at h
    match x, hx, h with
    | some (.ok a t1), hx, h =>
      obtain ⟨ha, h1⟩ := rd_ops l hb n (.bin 1) t ht (Nat.le_refl 1) trivial _ _ hx
      simp only [] at h
      by_cases c : t1.text = sQue
      · rw [if_pos c] at h
        generalize hy : rd l n .expr (tok l t1.stop) = y at h
        match y, hy, h with
        | some (.ok b t2), hy, h =>
          obtain ⟨hb0, h2⟩ := rd_ops l hb n .expr _ (tok_is _ hb _) trivial trivial _ _ hy
          simp only [] at h
          by_cases d : t2.text = sCol
          · rw [if_pos d] at h
            generalize hz : rd l n .cond (tok l t2.stop) = z at h
            match z, hz, h with
            | some (.ok f t3), hz, h =>
              obtain ⟨hf, h3⟩ := rd_ops l hb n .cond _ (tok_is _ hb _) trivial trivial _ _ hz
              simp only [Option.some.injEq, Rs.ok.injEq] at h
              obtain ⟨rfl, rfl⟩ := h
              exact ⟨⟨c, ha, hb0, hf⟩, h3⟩
          · rw [if_neg d] at h
            simp [refuse] at h
      · rw [if_neg c] at h
        simp only [Option.some.injEq, Rs.ok.injEq] at h
        obtain ⟨rfl, rfl⟩ := h
        exact ⟨ha, h1⟩
  | n + 1, .bin k, t, ht, hk, _, e, t', h => by
    simp only [rd] at h
    generalize hx : rd l n .opd t = x at h
    match x, hx, h with
    | some (.ok a t1), hx, h =>
      obtain ⟨ha, h1⟩ := rd_ops l hb n .opd t ht trivial trivial _ _ hx
      exact rd_ops l hb n (.loop k a) t1 h1 hk ha _ _ h
  | n + 1, .loop k left, t, ht, hk, hl, e, t', h => by
    simp only [rd] at h
    by_cases c : k ≤ strN t.text
    · rw [if_pos c] at h
      generalize hx : rd l n (.bin (strN t.text + 1)) (tok l t.stop) = x at h
      match x, hx, h with
      | some (.ok b t2), hx, h =>
        obtain ⟨hb0, h2⟩ := rd_ops l hb n (.bin (strN t.text + 1)) _ (tok_is _ hb _) (Nat.le_add_left 1 _) trivial _ _ hx
        exact rd_ops l hb n (.loop k (.bin t.text t.start left b)) t2 h2 hk ⟨Nat.le_trans hk c, hl, hb0⟩ _ _ h
    · rw [if_neg c] at h
      simp only [Option.some.injEq, Rs.ok.injEq] at h
      obtain ⟨rfl, rfl⟩ := h
      exact ⟨hl, ht⟩
  | n + 1, .opd, t, ht, _, _, e, t', h => by
    simp only [rd] at h
    by_cases c2 : t.kind = 2
    · rw [if_pos c2] at h
      by_cases co : t.over = true
      · rw [if_pos co] at h; simp [refuse] at h
      · rw [if_neg co] at h
        by_cases cg : goesB l t.stop = true
        · rw [if_pos cg] at h; simp at h
        · rw [if_neg cg] at h
          simp only [Option.some.injEq, Rs.ok.injEq] at h
          obtain ⟨rfl, rfl⟩ := h
          exact ⟨⟨ht.lo, ht.hi⟩, tok_is _ hb _⟩
    rw [if_neg c2] at h
    by_cases c3 : t.kind = 3
    · rw [if_pos c3] at h
      simp only [Option.some.injEq, Rs.ok.injEq] at h
      obtain ⟨rfl, rfl⟩ := h
      exact ⟨ht.nm c3, tok_is _ hb _⟩
    rw [if_neg c3] at h
    by_cases cu : ¬ unB t.text = sEmpty
    · rw [if_pos cu] at h
      generalize hx : rd l n .opd (tok l t.stop) = x at h
      match x, hx, h with
      | some (.ok a t1), hx, h =>
        simp only [Option.some.injEq, Rs.ok.injEq] at h
        obtain ⟨rfl, rfl⟩ := h
        obtain ⟨ha, h1⟩ := rd_ops l hb n .opd _ (tok_is _ hb _) trivial trivial _ _ hx
        exact ⟨⟨unB_mem cu, ha⟩, h1⟩
    rw [if_neg cu] at h
    by_cases cp : t.text = sOpen
    · rw [if_pos cp] at h
      generalize hx : rd l n .expr (tok l t.stop) = x at h
      match x, hx, h with
      | some (.ok a t1), hx, h =>
        obtain ⟨ha, h1⟩ := rd_ops l hb n .expr _ (tok_is _ hb _) trivial trivial _ _ hx
        simp only [] at h
        by_cases cs : t1.text = sShut
        · rw [if_pos cs] at h
          simp only [Option.some.injEq, Rs.ok.injEq] at h
          obtain ⟨rfl, rfl⟩ := h
          exact ⟨ha, tok_is _ hb _⟩
        · rw [if_neg cs] at h
          simp [refuse] at h
    · rw [if_neg cp] at h
      simp [refuse] at h

theorem parseP_ops {l : List Int} (hb : Byt l) {n : Nat} {e : Tr} {t : Tk} (h : parseP l n = some (.ok e t)) : e.Ops := by
  unfold parseP at h
  by_cases c : 1024 < l.length
  · rw [if_pos c] at h; simp at h
  · rw [if_neg c] at h
    unfold readP at h
    generalize hx : rd l n .expr (tok l 0) = x at h
    match x, hx, h with
    | some (.ok a t1), hx, h =>
      obtain ⟨ha, -⟩ := rd_ops l hb n .expr _ (tok_is _ hb _) trivial trivial _ _ hx
      simp only [] at h
      by_cases c : t1.kind = 0
      · rw [if_pos c] at h
        simp only [Option.some.injEq, Rs.ok.injEq] at h
        obtain ⟨rfl, rfl⟩ := h
        exact ha
      · rw [if_neg c] at h
        simp [refuse] at h
end Go.Proofs.YtlmoeldillpamaaDoor
