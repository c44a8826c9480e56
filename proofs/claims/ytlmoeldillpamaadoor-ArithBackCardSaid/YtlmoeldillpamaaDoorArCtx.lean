/- What every call of the reader finds; what it leaves. -/
import Derived.Test.YtlmoeldillpamaaDoorArRef
import Derived.Deep.CutRange
import Derived.Deep.DeepCutAuto
import Derived.Deep.Cut
namespace Go.Proofs.YtlmoeldillpamaaDoor
open Go.RowKit

theorem opList_le3 (l : List Int) : (opB l).size ≤ 3 := by
  rcases opFrom_mem l opList with h | ⟨h1, _⟩
  · show (opFrom l opList).size ≤ _
    rw [h]; decide
  · exact (opList_small _ h1).2
theorem tokL_facts (r : List Int) (q : Nat) : (tokL r q).start = q ∧ (tokL r q).stop ≤ q + r.length ∧ (tokL r q).text.size ≤ r.length := by
  unfold tokL
  have h1 := nmN_le r
  have h2 := cN_le r
  have h3 := opB_sz r
  have h0 : sEmpty.size = 0 := rfl
  (repeat' split) <;> simp [ofBys_size] <;> omega
theorem tok_stop (l : List Int) (p : Nat) (h : p ≤ l.length) : (tok l p).stop ≤ l.length := by
  have h1 := skipN_le l p h
  have h2 := (tokL_facts (l.drop (skipN l p)) (skipN l p)).2.1
  rw [List.length_drop] at h2
  unfold tok
  omega
theorem tok_text (l : List Int) (p : Nat) : (tok l p).text.size ≤ l.length := by
  have h2 := (tokL_facts (l.drop (skipN l p)) (skipN l p)).2.2
  rw [List.length_drop] at h2
  unfold tok
  omega

structure Ctx (l : List Int) (rb : Nat) (bv : Value) (s : Nat → Addr) (w : World) : Prop where
  sl : Sl w bv l
  ap : ∀ x o n cap, bv = .slice (some ⟨x, o, none⟩) n cap → l = [] ∨ x ≠ rb
  er : Er w s
  hi : 20 < rb
theorem Ctx.ch {l : List Int} {rb : Nat} {bv : Value} {s : Nat → Addr} {w w' : World} (h : Ctx l rb bv s w) (hc : Ch rb w w') : Ctx l rb bv s w' where
  sl := by
    obtain ⟨hy, hl, ⟨rfl, a, cap, hv⟩ | ⟨x, o, cap, hv, hcl, hcm, hr⟩⟩ := h.sl
    · exact ⟨hy, hl, Or.inl ⟨rfl, a, cap, hv⟩⟩
    · refine ⟨hy, hl, Or.inr ⟨x, o, cap, hv, hcl, hcm, fun i hi => ?_⟩⟩
      have hc' := hr i hi
      have hlt : x < w.heap.size := by
        rcases Nat.lt_or_ge x w.heap.size with h' | h'
        · exact h'
        · simp [World.cell?, Array.getElem?_eq_none h'] at hc'
      rcases h.ap _ _ _ _ hv with h0 | h0
      · rw [h0] at hi; simp at hi
      rw [World.cell?_of_block (w := w) (hc.2 x hlt h0)]
      exact hc'
  ap := h.ap
  er := ⟨fun k h1 h2 => by
    have hl := h.er.low
    have hh := h.hi
    rw [World.cell?_of_block (w := w) (hc.2 _ (by simp; omega) (by simp; omega))]
    exact h.er.var k h1 h2, Nat.lt_of_lt_of_le h.er.low hc.1.size⟩
  hi := h.hi

def Out (rb lo : Nat) (bv : Value) (s : Nat → Addr) : Rs → Ending → World → Prop
  | .ok t n, e, w' => Good rb lo bv t n e w'
  | .bad c p, e, w' => Bad s c p e w'

/-- The reader stands ready. -/
structure Rdy (l : List Int) (rb : Nat) (bv : Value) (s : Nat → Addr) (t : Tk) (w : World) : Prop where
  rd : Rd w rb bv t
  cx : Ctx l rb bv s w
  st : t.stop ≤ l.length
theorem Rdy.below {l : List Int} {rb : Nat} {bv : Value} {s : Nat → Addr} {t : Tk} {w w' : World} (h : Rdy l rb bv s t w) (hb : Below w.heap.size w w') : Rdy l rb bv s t w' where
  rd := (hb.block rb (lt_of_heap h.rd)).trans h.rd
  cx := h.cx.ch (Ch.of_below hb (Nat.le_of_lt (lt_of_heap h.rd)))
  st := h.st
theorem Rdy.ch {l : List Int} {rb : Nat} {bv : Value} {s : Nat → Addr} {t t' : Tk} {w w' : World} (h : Rdy l rb bv s t w) (hc : Ch rb w w') (hr : Rd w' rb bv t') (ht : t'.stop ≤ l.length) : Rdy l rb bv s t' w' where
  rd := hr
  cx := h.cx.ch hc
  st := ht

/-- The contracts of the reader's four methods, of so many calls. -/
structure RdC (l : List Int) (rb : Nat) (bv : Value) (s : Nat → Addr) (n : Nat) : Prop where
  expr : ∀ t res w, rd l n .expr t = some res → Rdy l rb bv s t w → Calls Tryd.prog 33 #[.pointer (some ⟨rb, 0, none⟩)] w fun e w' => Out rb w.heap.size bv s res e w' ∧ Ch rb w w'
  cond : ∀ t res w, rd l n .cond t = some res → Rdy l rb bv s t w → Calls Tryd.prog 47 #[.pointer (some ⟨rb, 0, none⟩)] w fun e w' => Out rb w.heap.size bv s res e w' ∧ Ch rb w w'
  bin : ∀ least t res w, rd l n (.bin least) t = some res → least ≤ 11 → 1 ≤ least → Rdy l rb bv s t w → Calls Tryd.prog 64 #[.pointer (some ⟨rb, 0, none⟩), .int .i64 least] w fun e w' => Out rb w.heap.size bv s res e w' ∧ Ch rb w w'
  opd : ∀ t res w, rd l n .opd t = some res → Rdy l rb bv s t w → Calls Tryd.prog 79 #[.pointer (some ⟨rb, 0, none⟩)] w fun e w' => Out rb w.heap.size bv s res e w' ∧ Ch rb w w'

theorem rd_stop (l : List Int) : ∀ (n : Nat) (md : Md) (t t' : Tk) (tr : Tr), rd l n md t = some (.ok tr t') → t.stop ≤ l.length → t'.stop ≤ l.length := by
  intro n
  induction n with
  | zero => intro md t t' tr h; simp [rd] at h
  | succ n ih =>
    intro md t t' tr h hs
    cases md with
    | expr =>
      simp only [rd] at h
      split at h
      · split at h
        · rename_i e t2 he
          simp only [Option.some.injEq, Rs.ok.injEq] at h
          obtain ⟨_, rfl⟩ := h
          exact ih _ _ _ _ he (tok_stop _ _ (tok_stop _ _ hs))
        · rename_i hne; exact absurd h (hne _ _)
      · exact ih _ _ _ _ h hs
    | cond =>
      simp only [rd] at h
      split at h
      · rename_i a t1 ha
        have h1 := ih _ _ _ _ ha hs
        split at h
        · split at h
          · rename_i y t2 hy
            have h2 := ih _ _ _ _ hy (tok_stop _ _ h1)
            split at h
            · split at h
              · rename_i z t3 hz
                simp only [Option.some.injEq, Rs.ok.injEq] at h
                obtain ⟨_, rfl⟩ := h
                exact ih _ _ _ _ hz (tok_stop _ _ h2)
              · rename_i hne; exact absurd h (hne _ _)
            · simp [refuse] at h
          · rename_i hne; exact absurd h (hne _ _)
        · simp only [Option.some.injEq, Rs.ok.injEq] at h
          obtain ⟨_, rfl⟩ := h
          exact h1
      · rename_i hne; exact absurd h (hne _ _)
    | bin least =>
      simp only [rd] at h
      split at h
      · rename_i a t1 ha
        exact ih _ _ _ _ h (ih _ _ _ _ ha hs)
      · rename_i hne; exact absurd h (hne _ _)
    | loop least left =>
      simp only [rd] at h
      split at h
      · split at h
        · rename_i b t2 hb
          exact ih _ _ _ _ h (ih _ _ _ _ hb (tok_stop _ _ hs))
        · rename_i hne; exact absurd h (hne _ _)
      · simp only [Option.some.injEq, Rs.ok.injEq] at h
        obtain ⟨_, rfl⟩ := h
        exact hs
    | opd =>
      simp only [rd] at h
      split at h
      · split at h
        · simp [refuse] at h
        · split at h
          · simp at h
          · simp only [Option.some.injEq, Rs.ok.injEq] at h
            obtain ⟨_, rfl⟩ := h
            exact tok_stop _ _ hs
      · split at h
        · simp only [Option.some.injEq, Rs.ok.injEq] at h
          obtain ⟨_, rfl⟩ := h
          exact tok_stop _ _ hs
        · split at h
          · split at h
            · rename_i a t1 ha
              simp only [Option.some.injEq, Rs.ok.injEq] at h
              obtain ⟨_, rfl⟩ := h
              exact ih _ _ _ _ ha (tok_stop _ _ hs)
            · rename_i hne; exact absurd h (hne _ _)
          · split at h
            · split at h
              · rename_i e t1 he
                split at h
                · simp only [Option.some.injEq, Rs.ok.injEq] at h
                  obtain ⟨_, rfl⟩ := h
                  exact tok_stop _ _ (ih _ _ _ _ he (tok_stop _ _ hs))
                · simp [refuse] at h
              · rename_i hne; exact absurd h (hne _ _)
            · simp [refuse] at h
end Go.Proofs.YtlmoeldillpamaaDoor
