import Derived.Test.YtnecadgoiolpgaaGreatDoorKSc
namespace Go.Proofs.YtnecadgoiolpgaaGreatDoor
open Go.RowKit
theorem found_uniq {l : List Int} {G : List St × Nat} {a w : Nat} (hw : w ≠ 2) {h h' : Option (Nat × Nat)} (f : FoundT l G a w h) (f' : FoundT l G a w h') : h = h' := by
 cases h with
 | none =>
  cases h' with
  | none => rfl
  | some q => exact (f q.1 f'.1 (by have := f'.2.1; have := f'.2.2.1; omega) q.2 f'.2.2.2.1).elim
 | some q =>
  cases h' with
  | none => exact (f' q.1 f.1 (by have := f.2.1; have := f.2.2.1; omega) q.2 f.2.2.2.1).elim
  | some q' =>
   obtain ⟨a1, a2, a3, a4, a5⟩ := f
   obtain ⟨b1, b2, b3, b4, b5⟩ := f'
   have a6 := a5 hw
   have b6 := b5 hw
   have e1 : q.1 = q'.1 := by
    rcases Nat.lt_trichotomy q.1 q'.1 with h | h | h
    ·exact (b6.1 q.1 a1 h q.2 a4).elim
    ·exact h
    ·exact (a6.1 q'.1 b1 h q'.2 b4).elim
   have e2 : q.2 = q'.2 := by
    rcases Nat.lt_trichotomy q.2 q'.2 with h | h | h
    ·exact (a6.2 q'.2 h (by rw [e1]; exact b4)).elim
    ·exact h
    ·exact (b6.2 q.2 h (by rw [← e1]; exact a4)).elim
   rw [Prod.ext e1 e2]
theorem can_one {a i : Nat} (h : a ≤ i) : CanB a 1 i := ⟨h, fun e => by cases e⟩
theorem can_two {a i : Nat} (h : a ≤ i) : CanB a 2 i := ⟨h, fun e => by cases e⟩
theorem can_zero (a : Nat) : CanB a 0 a := ⟨Nat.le_refl _, fun _ => rfl⟩
theorem found_later {l : List Int} {G : List St × Nat} {a b : Nat} (hab : a ≤ b) {h h' : Option (Nat × Nat)} (f : FoundT l G a 1 h) (f' : FoundT l G b 1 h') : (h = none → h' = none) ∧ (∀ q, h = some q → b ≤ q.1 → h' = some q) ∧ ∀ q, h' = some q → b ≤ q.1 := by
 refine ⟨fun e => ?_, fun q e hq => ?_, fun q e => ?_⟩
 ·subst e
  cases h' with
  | none => rfl
  | some q => exact (f q.1 (can_one (Nat.le_trans hab f'.1.1)) (by have := f'.2.1; have := f'.2.2.1; omega) q.2 f'.2.2.2.1).elim
 ·subst e
  refine found_uniq (by decide) f' ?_
  obtain ⟨a1, a2, a3, a4, a5⟩ := f
  exact ⟨can_one hq, a2, a3, a4, fun _ => ⟨fun c hc hlt j => (a5 (by decide)).1 c (can_one (Nat.le_trans hab hc.1)) hlt j, (a5 (by decide)).2⟩⟩
 ·subst e
  exact f'.1.1
theorem found_any {l : List Int} {G : List St × Nat} {a : Nat} {h h' : Option (Nat × Nat)} (f : FoundT l G a 1 h) (f' : FoundT l G a 2 h') : h.isSome = h'.isSome := by
 cases h with
 | none =>
  cases h' with
  | none => rfl
  | some q => exact (f q.1 (can_one f'.1.1) (by have := f'.2.1; have := f'.2.2.1; omega) q.2 f'.2.2.2.1).elim
 | some q =>
  cases h' with
  | none => exact (f' q.1 (can_two f.1.1) (by have := f.2.1; have := f.2.2.1; omega) q.2 f.2.2.2.1).elim
  | some q' => rfl
theorem found_long {l : List Int} {G : List St × Nat} {a i : Nat} (hai : a ≤ i) {h h0 : Option (Nat × Nat)} (f : FoundT l G a 1 h) (f0 : FoundT l G i 0 h0) : (h = none → h0 = none) ∧ ∀ q, h = some q → (i < q.1 → h0 = none) ∧ (i = q.1 → h0 = some q) := by
 refine ⟨fun e => ?_, fun q e => ⟨fun hi => ?_, fun hi => ?_⟩⟩
 ·subst e
  cases h0 with
  | none => rfl
  | some q => exact (f q.1 (can_one (Nat.le_trans hai f0.1.1)) (by have := f0.2.1; have := f0.2.2.1; omega) q.2 f0.2.2.2.1).elim
 ·subst e
  cases h0 with
  | none => rfl
  | some p =>
   have e1 : p.1 = i := f0.1.2 rfl
   exact ((f.2.2.2.2 (by decide)).1 p.1 (can_one (Nat.le_trans hai f0.1.1)) (by omega) p.2 f0.2.2.2.1).elim
 ·subst e
  refine found_uniq (by decide) f0 ?_
  subst hi
  obtain ⟨a1, a2, a3, a4, a5⟩ := f
  exact ⟨can_zero _, a2, a3, a4, fun _ => ⟨fun c hc hlt => by have := hc.1; omega, (a5 (by decide)).2⟩⟩
theorem ask_found {l : List Int} {G : List St × Nat} (hc : ClG G.1) (hz : ∀ x, G.1[x]? = some .acc ↔ x = 0) (hst : G.2 < G.1.length) (a wm : Nat) : FoundT l G a wm (askF G l (a : Int) wm).1 := by
 have e : askF G l (a : Int) wm = passF G l a wm := by unfold askF; rw [if_neg (by omega)]; rfl
 rw [e]
 exact passF_found hc hz hst a wm
theorem found_le {l : List Int} {G : List St × Nat} {a w : Nat} {q : Nat × Nat} (f : FoundT l G a w (some q)) : a ≤ q.1 ∧ q.1 ≤ q.2 ∧ q.2 ≤ l.length := ⟨f.1.1, f.2.1, f.2.2.1⟩
theorem hitV_none (v : Nat) : hitV (none, v) = .agg #[.bool false, .int .i64 0, .int .i64 0, .int .i64 (v : Nat)] := rfl
theorem hitV_some (s e v : Nat) : hitV (some (s, e), v) = .agg #[.bool true, .int .i64 (s : Nat), .int .i64 (e : Nat), .int .i64 (v : Nat)] := rfl
end Go.Proofs.YtnecadgoiolpgaaGreatDoor
