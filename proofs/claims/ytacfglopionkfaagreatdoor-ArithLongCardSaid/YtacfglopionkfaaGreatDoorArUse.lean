/- What the statements on arithmetic texts use: Parse's two answers, Tell of its errors. -/
import Derived.Test.YtacfglopionkfaaGreatDoorKPa
import Derived.Test.YtacfglopionkfaaGreatDoorArAwake
import Derived.Test.YtacfglopionkfaaGreatDoorKWr
import Derived.Test.YtacfglopionkfaaGreatDoorArText
import Derived.Lib.ItoaLen
import Derived.Test.YtacfglopionkfaaGreatDoorFaTell
import Derived.Test.YtacfglopionkfaaGreatDoorFaSnt
import Derived.Deep.RegionHeld3
import Derived.Deep.RegionWith
namespace Go.Proofs.YtacfglopionkfaaGreatDoor
open Go.RowKit Go.Extern.Stop Go.Stop Go.Extern

/-- What Tell tells of a parsing error. -/
theorem tell_err (s : Nat → Addr) (c p : Nat) (v : Value) (w : World) (hs : Snt w s) (h : ErrAt w s c p v) (h1 : 1 ≤ c) (h2 : c ≤ 21) :
    Calls Tryz.prog 11 #[v] w fun e w' => e = .returned (.agg #[.int .i64 c, .int .i64 p, .int .i64 1]) ∧ Below w.heap.size w w' := by
  have := tell_any [(true, 1), (false, (p : Int))] v (s c) s c w hs (hs.rt c h1 h2) h
  simpa [firstOf] using this

theorem rd_code (l : List Int) : ∀ (n : Nat) (md : Md) (t : Tk) (c p : Nat), rd l n md t = some (.bad c p) → c = 3 ∨ c = 6
  | 0, md, t, c, p, h => by cases md <;> simp [rd] at h
  | n + 1, .expr, t, c, p, h => by
    simp only [rd] at h
    by_cases g : t.kind = 3 ∧ asgB (tok l t.stop).text = true
    · rw [if_pos g] at h
      generalize hx : rd l n .expr (tok l (tok l t.stop).stop) = x at h
      match x, hx, h with
      | none, _, h => simp at h
      | some (.bad a q), hx, h =>
        simp only [Option.some.injEq, Rs.bad.injEq] at h
        obtain ⟨rfl, rfl⟩ := h
        exact rd_code l n _ _ _ _ hx
      | some (.ok _ _), _, h => simp at h
    · rw [if_neg g] at h
      exact rd_code l n _ _ _ _ h
  | n + 1, .cond, t, c, p, h => by
    simp only [rd] at h
    generalize hx : rd l n (.bin 1) t = x at h
    match x, hx, h with
    | none, _, h => simp at h
    | some (.bad a q), hx, h =>
      simp only [Option.some.injEq, Rs.bad.injEq] at h
      obtain ⟨rfl, rfl⟩ := h
      exact rd_code l n _ _ _ _ hx
    | some (.ok a t1), hx, h =>
      simp only [] at h
      by_cases g : t1.text = sQue
      · rw [if_pos g] at h
        generalize hy : rd l n .expr (tok l t1.stop) = y at h
        match y, hy, h with
        | none, _, h => simp at h
        | some (.bad a q), hy, h =>
          simp only [Option.some.injEq, Rs.bad.injEq] at h
          obtain ⟨rfl, rfl⟩ := h
          exact rd_code l n _ _ _ _ hy
        | some (.ok b t2), hy, h =>
          simp only [] at h
          by_cases d : t2.text = sCol
          · rw [if_pos d] at h
            generalize hz : rd l n .cond (tok l t2.stop) = z at h
            match z, hz, h with
            | none, _, h => simp at h
            | some (.bad a q), hz, h =>
              simp only [Option.some.injEq, Rs.bad.injEq] at h
              obtain ⟨rfl, rfl⟩ := h
              exact rd_code l n _ _ _ _ hz
            | some (.ok f t3), _, h => simp at h
          · rw [if_neg d] at h
            simp only [refuse, Tk.code, Option.some.injEq, Rs.bad.injEq] at h
            obtain ⟨rfl, _⟩ := h
            split <;> simp
      · rw [if_neg g] at h
        simp at h
  | n + 1, .bin k, t, c, p, h => by
    simp only [rd] at h
    generalize hx : rd l n .opd t = x at h
    match x, hx, h with
    | none, _, h => simp at h
    | some (.bad a q), hx, h =>
      simp only [Option.some.injEq, Rs.bad.injEq] at h
      obtain ⟨rfl, rfl⟩ := h
      exact rd_code l n _ _ _ _ hx
    | some (.ok a t1), hx, h => exact rd_code l n _ _ _ _ h
  | n + 1, .loop k left, t, c, p, h => by
    simp only [rd] at h
    by_cases g : k ≤ strN t.text
    · rw [if_pos g] at h
      generalize hx : rd l n (.bin (strN t.text + 1)) (tok l t.stop) = x at h
      match x, hx, h with
      | none, _, h => simp at h
      | some (.bad a q), hx, h =>
        simp only [Option.some.injEq, Rs.bad.injEq] at h
        obtain ⟨rfl, rfl⟩ := h
        exact rd_code l n _ _ _ _ hx
      | some (.ok b t2), hx, h => exact rd_code l n _ _ _ _ h
    · rw [if_neg g] at h
      simp at h
  | n + 1, .opd, t, c, p, h => by
    simp only [rd] at h
    have hr : ∀ u : Tk, some (refuse u) = some (Rs.bad c p) → c = 3 ∨ c = 6 := fun u h => by
      simp only [refuse, Tk.code, Option.some.injEq, Rs.bad.injEq] at h
      obtain ⟨rfl, _⟩ := h
      split <;> simp
    by_cases c2 : t.kind = 2
    · rw [if_pos c2] at h
      by_cases co : t.over = true
      · rw [if_pos co] at h; exact hr t h
      · rw [if_neg co] at h
        by_cases cg : goesB l t.stop = true
        · rw [if_pos cg] at h
          simp only [Option.some.injEq, Rs.bad.injEq] at h
          exact Or.inl h.1.symm
        · rw [if_neg cg] at h
          simp at h
    rw [if_neg c2] at h
    by_cases c3 : t.kind = 3
    · rw [if_pos c3] at h
      simp at h
    rw [if_neg c3] at h
    by_cases cu : ¬ unB t.text = sEmpty
    · rw [if_pos cu] at h
      generalize hx : rd l n .opd (tok l t.stop) = x at h
      match x, hx, h with
      | none, _, h => simp at h
      | some (.bad a q), hx, h =>
        simp only [Option.some.injEq, Rs.bad.injEq] at h
        obtain ⟨rfl, rfl⟩ := h
        exact rd_code l n _ _ _ _ hx
      | some (.ok a t1), _, h => simp at h
    rw [if_neg cu] at h
    by_cases cp : t.text = sOpen
    · rw [if_pos cp] at h
      generalize hx : rd l n .expr (tok l t.stop) = x at h
      match x, hx, h with
      | none, _, h => simp at h
      | some (.bad a q), hx, h =>
        simp only [Option.some.injEq, Rs.bad.injEq] at h
        obtain ⟨rfl, rfl⟩ := h
        exact rd_code l n _ _ _ _ hx
      | some (.ok a t1), hx, h =>
        simp only [] at h
        by_cases cs : t1.text = sShut
        · rw [if_pos cs] at h
          simp at h
        · rw [if_neg cs] at h
          exact hr t1 h
    · rw [if_neg cp] at h
      exact hr t h
/-- The codes of Parse's errors. -/
theorem parseP_code {l : List Int} {n c p : Nat} (h : parseP l n = some (.bad c p)) : c = 2 ∨ c = 3 ∨ c = 6 := by
  unfold parseP at h
  by_cases g : 1024 < l.length
  · rw [if_pos g] at h
    simp only [Option.some.injEq, Rs.bad.injEq] at h
    exact Or.inl h.1.symm
  · rw [if_neg g] at h
    unfold readP at h
    generalize hx : rd l n .expr (tok l 0) = x at h
    match x, hx, h with
    | none, _, h => simp at h
    | some (.bad a q), hx, h =>
      simp only [Option.some.injEq, Rs.bad.injEq] at h
      obtain ⟨rfl, rfl⟩ := h
      exact Or.inr (rd_code l n _ _ _ _ hx)
    | some (.ok a t1), hx, h =>
      simp only [] at h
      by_cases ck : t1.kind = 0
      · rw [if_pos ck] at h
        simp at h
      · rw [if_neg ck] at h
        simp only [refuse, Tk.code, Option.some.injEq, Rs.bad.injEq] at h
        obtain ⟨rfl, _⟩ := h
        split <;> simp


theorem parse_ok (v : Value) (l : List Int) (n : Nat) (e : Tr) (t : Tk) (s : Nat → Addr) (w : World) (h : parseP l n = some (.ok e t)) (hs : Sl w v l) (he : Snt w s) :
    Calls Tryz.prog 9 #[v] w fun x w' => (∃ E, x = .returned (.tuple #[.pointer (some ⟨E, 0, none⟩), .nilIface]) ∧ ExAt w' E e) ∧ Below w.heap.size w w' := by
  refine (parse_any v l n _ s w h hs he.er).mono ?_
  rintro x w' ⟨⟨E, o, m, rfl, _, hE, hI⟩, hb⟩
  exact ⟨⟨E, rfl, o, m, hE, hI.mono (Nat.zero_le _) _ _⟩, hb⟩
theorem parse_bad (v : Value) (l : List Int) (n c p : Nat) (s : Nat → Addr) (w : World) (h : parseP l n = some (.bad c p)) (hs : Sl w v l) (he : Snt w s) :
    Calls Tryz.prog 9 #[v] w fun x w' => (∃ pv, x = .returned (.tuple #[.pointer none, .iface 89 pv]) ∧ ErrAt w' s c p (.iface 89 pv)) ∧ Below w.heap.size w w' :=
  parse_any v l n _ s w h hs he.er

end Go.Proofs.YtacfglopionkfaaGreatDoor
