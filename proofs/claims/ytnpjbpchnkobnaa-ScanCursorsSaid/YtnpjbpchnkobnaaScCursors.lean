/- A slice of steps, opened; the statement on a cursor's steps. -/
import Derived.Test.YtnpjbpchnkobnaaScSteps
import Derived.Test.YtnpjbpchnkobnaaScOpen
import Derived.Deep.Slices
import Derived.Deep.Fields
namespace Go.Proofs.Ytnpjbpchnkobnaa
open Go.RowKit

set_option maxRecDepth 100000 in
set_option maxHeartbeats 4000000 in
theorem lawSteps_none (v : Value) (l : List Int) (sa : Option Addr) (sc : Nat) (w : World) (hs : Sl w v l) :
    Calls Try.prog 3 #[v, .slice sa 0 sc] w fun e w' => e = .returned (.bool true) ∧ Below w.heap.size w w' := by
  have HN := Lib.hid (cnew_any _ l w hs)
  clear hs
  go_enter Try.func3, Try.ntmps3
  go_wp2_with fail
  refine HN.out.mono ?_
  rintro e w1 ⟨rfl, rfl⟩
  go_wp2_with fail
  have HW3 : Hid (Below w.heap.size w (w.alloc (.cells #[.string (ofBys l), .int .i64 0] 49))) := (Below.refl _ _).alloc (Nat.le_refl _) _
  generalize w.alloc (.cells #[.string (ofBys l), .int .i64 0] 49) = w1 at *
  go_loop [6, 7] (fun a i => a = .int .i64 0 ∧ i = .int .i64 0) (fun _ _ => 0)
  case atStart => exact ⟨rfl, rfl⟩
  case round =>
    obtain ⟨rfl, rfl⟩ := hrel
    go_wp2_with fail
    refine (awake_any _).mono ?_; rintro e wg ⟨rfl, hg⟩
    have HG := Lib.hid hg
    clear hg
    go_wp2
    go_ret
    exact ⟨rfl, HW3.out.trans (HG.out.mono HW3.out.size)⟩

set_option maxRecDepth 100000 in
theorem steps_of {H : Type} {enc : TypeId × Value → H} {W : World} {base : Nat} {v : Value} {d : DataW H} {ps : List MemPlace}
    (hk : Value.okWide Try.prog W .any base 23 v) (h : DataW.Trod enc Try.prog W 0 (fun _ => true) true 23 v d ps) :
    (∃ sa sc, v = .slice sa 0 sc) ∨ ∃ sb so sc n ws, v = .slice (some ⟨sb, so, none⟩) n sc ∧ StepsAt W sb so n ws ∧ n ≤ 9223372036854775807 := by
  obtain ⟨a0, len, cap, rfl⟩ := WideShapes.okWide_slice Try.underlying23 hk
  obtain ⟨fuel, hf⟩ := h
  by_cases hl0 : len = 0
  · subst hl0; exact Or.inl ⟨a0, cap, rfl⟩
  right
  rcases Deep.open_slice Try.underlying23 hf with ⟨hcs, hx⟩ | ⟨a, len', cap', m, n, D, Pl, hcs, hb, hl, hm, hmm, hx, hi⟩
  · simp [Value.cells] at hcs
    exact absurd hcs.2.1 hl0
  · simp [Value.cells] at hcs
    obtain ⟨rfl, rfl, rfl⟩ := hcs
    simp only [if_true] at hmm
    have hC : Try.prog.cellsOf 27 = 3 := by kernel_rfl
    rw [hC] at hi
    have hel : ∀ i, i < len → ∃ x : StepD, W.cell? (a.add (i * 3)) = some (.int .i64 x.dd) ∧ W.cell? (a.add (i * 3 + 1)) = some (.int .i64 x.nn) ∧ W.cell? (a.add (i * 3 + 2)) = some (.string x.tt) ∧
        (-9223372036854775808 ≤ x.nn ∧ x.nn ≤ 9223372036854775807) ∧ x.tt.size ≤ 9223372036854775807 := by
      intro i him
      obtain ⟨cs', hc, ht⟩ := hi i (by omega)
      obtain ⟨_, hlen, hat⟩ := World.cells?_some hc
      obtain ⟨xs, n', _, hy, hcl, hxl, hg⟩ := DataW.trod_struct Try.underlying27 ht
      match cs', hlen with
      | [c0, c1, c2], _ =>
        match xs, hxl with
        | [y0, y1, y2], _ =>
          have o0 : Try.prog.cellsOf 3 = 1 := by kernel_rfl
          have o1 : Try.prog.cellsOf 9 = 1 := by kernel_rfl
          have g0 : DataW.trod enc Try.prog W 0 (fun _ => true) true n' 3 (([c0, c1, c2].drop 0).take (Try.prog.cellsOf 3)) = some y0 := hg 0 _ rfl
          have g1 : DataW.trod enc Try.prog W 0 (fun _ => true) true n' 3 (([c0, c1, c2].drop 1).take (Try.prog.cellsOf 3)) = some y1 := hg 1 _ rfl
          have g2 : DataW.trod enc Try.prog W 0 (fun _ => true) true n' 9 (([c0, c1, c2].drop 2).take (Try.prog.cellsOf 9)) = some y2 := hg 2 _ rfl
          rw [o0] at g0 g1
          rw [o1] at g2
          simp only [List.drop_zero, List.take_succ_cons, List.take_zero, List.drop_succ_cons] at g0 g1 g2
          obtain ⟨n0, hn0, _, _⟩ := DataW.trod_int Try.underlying3 g0
          obtain ⟨n1, hn1, _, hw1⟩ := DataW.trod_int Try.underlying3 g1
          obtain ⟨s2, hs2, _, hw2⟩ := DataW.trod_string Try.underlying9 g2
          simp only [List.cons.injEq, and_true] at hn0 hn1 hs2
          subst hn0 hn1 hs2
          have c0' := hat 0 (by omega)
          have c1' := hat 1 (by omega)
          have c2' := hat 2 (by omega)
          simp only [List.getElem?_cons_zero, List.getElem?_cons_succ] at c0' c1' c2'
          rw [Deep.add_add] at c0' c1' c2'
          have hb1 : -9223372036854775808 ≤ n1 ∧ n1 ≤ 9223372036854775807 := by simpa [Lit.wf, IntKind.min, IntKind.max, IntKind.signed, IntKind.bits] using hw1
          exact ⟨⟨n0, n1, s2⟩, c0', c1', c2', hb1, by unfold maxLen at hw2; exact hw2⟩
    haveI : Inhabited StepD := ⟨⟨0, 0, ByteArray.empty⟩⟩
    obtain ⟨ws, hws⟩ := Deep.choose_lt hel
    obtain ⟨b, off, spot⟩ := a
    have hspot : spot = none := by simpa [Addr.add] using World.cell?_spot (hws 0 (by omega)).1
    subst hspot
    refine ⟨b, off, cap, len, ws, rfl, ?_, by unfold maxLen at hm; omega⟩
    intro i him
    have := hws i him
    rw [WideShapes.add_plain, WideShapes.add_plain, WideShapes.add_plain, ← Nat.add_assoc, ← Nat.add_assoc] at this
    exact this

theorem scanCursors_open {H : Type} {enc : TypeId × Value → H} {d0 d1 : DataW H} {p0 p1 : List MemPlace} {q : Prop} (W : World) (base : Nat) (v0 v1 : Value)
    (h0 : DataW.Trod enc Try.prog W 0 (fun _ => true) true 22 v0 d0 p0) (h1 : DataW.Trod enc Try.prog W 0 (fun _ => true) true 23 v1 d1 p1)
    (k0 : Value.okWide Try.prog W .any base 22 v0) (k1 : Value.okWide Try.prog W .any base 23 v1) (_ : q) :
    Calls Try.prog 3 #[v0, v1] W fun e W' => e = .returned (.bool true) ∧ Below W.heap.size W W' := by
  obtain ⟨l, hs⟩ := sl_of k0 h0
  rcases steps_of k1 h1 with ⟨sa, sc, rfl⟩ | ⟨sb, so, sc, n, ws, rfl, hst, hn⟩
  · exact lawSteps_none v0 l sa sc W hs
  · exact lawSteps_any v0 l sb so sc n ws W hs hst hn
end Go.Proofs.Ytnpjbpchnkobnaa
