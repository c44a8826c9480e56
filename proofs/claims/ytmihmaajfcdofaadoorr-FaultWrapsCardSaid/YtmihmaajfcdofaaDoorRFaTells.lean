/- The walk of the statement on what any wrapped code tells. -/
import Derived.Test.YtmihmaajfcdofaaDoorRFaBuild
import Derived.Deep.RegionHeld3
import Derived.Test.YtmihmaajfcdofaaDoorRFaLaid
import Derived.Deep.Slices
import Derived.Deep.Fields
namespace Go.Proofs.YtmihmaajfcdofaaDoorR
open Go.RowKit Go.Extern.Stop Go.Stop Go.Extern

/-- What the statement's last region keeps: the old memory and the fault's three cells. -/
def Kp (w : World) (F : Nat) (x y z : Value) (w' : World) : Prop :=
  Below w.heap.size w w' ∧ w'.cell? ⟨F, 0, none⟩ = some x ∧ w'.cell? ⟨F, 1, none⟩ = some y ∧ w'.cell? ⟨F, 2, none⟩ = some z ∧ F < w'.heap.size
theorem Kp.next {w : World} {F : Nat} {x y z : Value} {w1 w2 : World} (h : Kp w F x y z w1) (hb : Below w1.heap.size w1 w2) : Kp w F x y z w2 := by
  obtain ⟨h0, h1, h2, h3, h4⟩ := h
  exact ⟨Below.step h0 hb, by rw [hb.cell h4]; exact h1, by rw [hb.cell h4]; exact h2, by rw [hb.cell h4]; exact h3, Nat.lt_of_lt_of_le h4 hb.size⟩
theorem Snt.kp {w : World} {s : Nat → Addr} (hs : Snt w s) {F : Nat} {x y z : Value} {w1 : World} (h : Kp w F x y z w1) : Snt w1 s := hs.below h.1
theorem Kp.drew {w : World} {F : Nat} {x y z : Value} {w1 : World} (h : Kp w F x y z w1) : Kp w F x y z w1.drew := h.next (Below.refl _ _).drew

set_option maxRecDepth 100000 in
set_option maxHeartbeats 8000000 in
theorem tells_zero (sl : Value) (w : World) (s : Nat → Addr) (hs : Snt w s) :
    Calls Tryd.prog 3 #[.int .i64 0, sl] w fun e w' => e = .returned (.bool true) ∧ Below w.heap.size w w' := by
  have HS := Lib.hid hs
  clear hs
  go_enter Tryd.func3, Tryd.ntmps3
  go_wp2_with fail
  refine (build_zero sl w).mono ?_
  rintro e w0 ⟨rfl, hb0⟩
  have hk : Kp w w0.heap.size (.int .i64 0) (.int .i64 0) (.int .i64 0) (w0.alloc (.cells #[.int .i64 0, .int .i64 0, .int .i64 0] 26)) :=
    ⟨Below.step hb0 ((Below.refl _ _).alloc (Nat.le_refl _) _), by simp, by simp, by simp, by simp⟩
  have HK := Lib.hid hk
  clear hb0 hk
  go_wp2
  go_region_held3 (fun w' => Below w.heap.size w w' ∧ w'.cell? ⟨w0.heap.size, 0, none⟩ = some (.int .i64 0) ∧ w'.cell? ⟨w0.heap.size, 1, none⟩ = some (.int .i64 0) ∧ w'.cell? ⟨w0.heap.size, 2, none⟩ = some (.int .i64 0) ∧ w0.heap.size < w'.heap.size) (first | exact HK.out.drew | exact Kp.next (by assumption) (by assumption))
    (first
      | (go_at_call 9; refine (of_none _ 0 (by decide)).mono ?_; rintro e w' ⟨rfl, rfl⟩)
      | (go_at_call 8; refine (tell_nil _).mono ?_; rintro e w' ⟨rfl, hbt⟩)
      | (go_at_call 10; refine (awake_any s _ ?_).mono ?_; exact Snt.kp (F := w0.heap.size) (x := .int .i64 0) (y := .int .i64 0) (z := .int .i64 0) HS.out (by assumption); rintro e w' ⟨rfl, hbt⟩))
  all_goals
    go_wp2
    go_ret
    exact ⟨rfl, And.left (by assumption)⟩
set_option maxRecDepth 100000 in
set_option maxHeartbeats 8000000 in
theorem tells_other (sl : Value) (w : World) (s : Nat → Addr) (hs : Snt w s) :
    Calls Tryd.prog 3 #[.int .i64 22, sl] w fun e w' => e = .returned (.bool true) ∧ Below w.heap.size w w' := by
  have HS := Lib.hid hs
  clear hs
  go_enter Tryd.func3, Tryd.ntmps3
  go_wp2_with fail
  refine (build_other sl w).mono ?_
  rintro e w0 ⟨rfl, hb0⟩
  have hk : Kp w w0.heap.size (.int .i64 0) (.int .i64 0) (.int .i64 0) (w0.alloc (.cells #[.int .i64 0, .int .i64 0, .int .i64 0] 26)) :=
    ⟨Below.step hb0 ((Below.refl _ _).alloc (Nat.le_refl _) _), by simp, by simp, by simp, by simp⟩
  have HK := Lib.hid hk
  clear hb0 hk
  go_wp2
  go_region_held3 (fun w' => Below w.heap.size w w' ∧ w'.cell? ⟨w0.heap.size, 0, none⟩ = some (.int .i64 0) ∧ w'.cell? ⟨w0.heap.size, 1, none⟩ = some (.int .i64 0) ∧ w'.cell? ⟨w0.heap.size, 2, none⟩ = some (.int .i64 0) ∧ w0.heap.size < w'.heap.size) (first | exact HK.out.drew | exact Kp.next (by assumption) (by assumption))
    (first
      | (go_at_call 9; refine (of_none _ 22 (by decide)).mono ?_; rintro e w' ⟨rfl, rfl⟩)
      | (go_at_call 8; refine (tell_nil _).mono ?_; rintro e w' ⟨rfl, hbt⟩)
      | (go_at_call 10; refine (awake_any s _ ?_).mono ?_; exact Snt.kp (F := w0.heap.size) (x := .int .i64 0) (y := .int .i64 0) (z := .int .i64 0) HS.out (by assumption); rintro e w' ⟨rfl, hbt⟩))
  all_goals
    go_wp2
    go_ret
    exact ⟨rfl, And.left (by assumption)⟩

theorem codeNo_pos (c : Int) : 1 ≤ codeNo c ∧ codeNo c ≤ 22 := by
  unfold codeNo
  split <;> omega

set_option maxRecDepth 100000 in
set_option maxHeartbeats 8000000 in
theorem tells_some (c : Int) (h0 : c ≠ 0) (h22 : c ≠ 22) (sl : Value) (len : Nat) (ws : Nat → Bool × Int) (w : World) (s : Nat → Addr) (hs : Snt w s) (hw : Wraps w sl len ws) :
    Calls Tryd.prog 3 #[.int .i64 c, sl] w fun e w' => e = .returned (.bool true) ∧ Below w.heap.size w w' := by
  have HS := Lib.hid hs
  have HU := Lib.hid (build_any c h0 h22 sl len ws w s hs hw)
  have hcp := codeNo_pos c
  clear hs hw
  go_enter Tryd.func3, Tryd.ntmps3
  go_wp2_with fail
  refine HU.out.mono ?_
  clear HU
  rintro e w0 ⟨v, a, rfl, hc, hr, hb0⟩
  obtain ⟨vt, vv, rfl⟩ := hc.held ⟨_, _, rfl⟩
  have HT : Hid (∀ w1, Below w0.heap.size w0 w1 → Calls Tryd.prog 8 #[.iface vt vv] w1 fun e w' => e = .returned (.agg #[.int .i64 (codeNo c), .int .i64 ((firstOf false (lst ws (min len 60))).getD 0), .int .i64 ((firstOf true (lst ws (min len 60))).getD 0)]) ∧ Below w1.heap.size w1 w') :=
    fun w1 hb1 => tell_any _ _ a s (codeNo c) w1 (HS.out.below (Below.step hb0 hb1)) (hr.below hb1) (hc.below hb1)
  have HB0 := Lib.hid hb0
  clear hc hr hb0
  generalize (firstOf false (lst ws (min len 60))).getD 0 = p at *
  generalize (firstOf true (lst ws (min len 60))).getD 0 = l at *
  generalize codeNo c = k at *
  clear h0 h22
  have hk0 : ((k : Int) == 0) = false := beq_eq_false_iff_ne.2 (by omega)
  have hkp : Kp w0 w0.heap.size (.int .i64 k) (.int .i64 p) (.int .i64 l) (w0.alloc (.cells #[.int .i64 k, .int .i64 p, .int .i64 l] 26)) :=
    ⟨(Below.refl _ _).alloc (Nat.le_refl _) _, by simp, by simp, by simp, by simp⟩
  have HK := Lib.hid hkp
  clear hkp hcp
  go_wp2
  go_region_held3 (fun w' => Below w0.heap.size w0 w' ∧ w'.cell? ⟨w0.heap.size, 0, none⟩ = some (.int .i64 k) ∧ w'.cell? ⟨w0.heap.size, 1, none⟩ = some (.int .i64 p) ∧ w'.cell? ⟨w0.heap.size, 2, none⟩ = some (.int .i64 l) ∧ w0.heap.size < w'.heap.size) (first | exact HK.out.drew | exact Kp.next (by assumption) (by assumption))
    (first
      | (go_at_call 8; refine (HT.out _ ?_).mono ?_; exact And.left (by assumption); rintro e w' ⟨rfl, hbt⟩)
      | (go_at_call 10; refine (awake_any s _ ?_).mono ?_; exact Snt.kp (F := w0.heap.size) (x := .int .i64 k) (y := .int .i64 p) (z := .int .i64 l) (HS.out.below HB0.out) (by assumption); rintro e w' ⟨rfl, hbt⟩))
  all_goals
    go_wp2
    go_ret
    exact ⟨rfl, Below.step HB0.out (And.left (by assumption))⟩

set_option maxRecDepth 100000 in
/-- A slice of wraps that came in, as the walks want it. -/
theorem wraps_of {H : Type} {enc : TypeId × Value → H} {W : World} {base : Nat} {v : Value} {d : DataW H} {ps : List MemPlace}
    (hk : Value.okWide Tryd.prog W .any base 22 v) (h : DataW.Trod enc Tryd.prog W 0 (fun _ => true) true 22 v d ps) : ∃ len ws, Wraps W v len ws := by
  obtain ⟨a0, len, cap, rfl⟩ := WideShapes.okWide_slice Tryd.underlying22 hk
  obtain ⟨fuel, hf⟩ := h
  by_cases hl0 : len = 0
  · subst hl0; exact ⟨0, fun _ => default, Or.inl ⟨a0, cap, rfl, rfl⟩⟩
  rcases Deep.open_slice Tryd.underlying22 hf with ⟨hcs, hx⟩ | ⟨a, len', cap', m, n, D, Pl, hcs, hb, hl, hm, hmm, hx, hi⟩
  · simp [Value.cells] at hcs
    exact absurd hcs.2.1 hl0
  · simp [Value.cells] at hcs
    obtain ⟨rfl, rfl, rfl⟩ := hcs
    simp only [if_true] at hmm
    have hC : Tryd.prog.cellsOf 40 = 2 := by kernel_rfl
    rw [hC] at hi
    have hel : ∀ i, i < len → ∃ x : Bool × Int, W.cell? (a.add (i * 2)) = some (.bool x.1) ∧ W.cell? (a.add (i * 2 + 1)) = some (.int .i64 x.2) := by
      intro i him
      obtain ⟨cs', hc, ht⟩ := hi i (by omega)
      obtain ⟨_, hlen, hat⟩ := World.cells?_some hc
      obtain ⟨xs, n', _, hy, hcl, hxl, hg⟩ := DataW.trod_struct Tryd.underlying40 ht
      match cs', hlen with
      | [c0, c1], _ =>
        match xs, hxl with
        | [y0, y1], _ =>
          have o0 : Tryd.prog.cellsOf 4 = 1 := by kernel_rfl
          have o1 : Tryd.prog.cellsOf 3 = 1 := by kernel_rfl
          have g0 : DataW.trod enc Tryd.prog W 0 (fun _ => true) true n' 4 (([c0, c1].drop 0).take (Tryd.prog.cellsOf 4)) = some y0 := hg 0 _ rfl
          have g1 : DataW.trod enc Tryd.prog W 0 (fun _ => true) true n' 3 (([c0, c1].drop 1).take (Tryd.prog.cellsOf 3)) = some y1 := hg 1 _ rfl
          rw [o0] at g0
          rw [o1] at g1
          simp only [List.drop_zero, List.take_succ_cons, List.take_zero, List.drop_succ_cons] at g0 g1
          obtain ⟨bv, hbv, _⟩ := DataW.trod_bool Tryd.underlying4 g0
          obtain ⟨nv, hnv, _, _⟩ := DataW.trod_int Tryd.underlying3 g1
          simp only [List.cons.injEq, and_true] at hbv hnv
          subst hbv hnv
          have c0' := hat 0 (by omega)
          have c1' := hat 1 (by omega)
          simp only [List.getElem?_cons_zero, List.getElem?_cons_succ] at c0' c1'
          rw [Deep.add_add] at c0' c1'
          exact ⟨(bv, nv), c0', c1'⟩
    obtain ⟨ws, hws⟩ := Deep.choose_lt hel
    obtain ⟨b, off, spot⟩ := a
    have hspot : spot = none := by simpa [Addr.add] using World.cell?_spot (hws 0 (by omega)).1
    subst hspot
    refine ⟨len, ws, Or.inr ⟨b, off, cap, rfl, ?_, by unfold maxLen at hm; omega⟩⟩
    intro i him
    have := hws i him
    rw [WideShapes.add_plain, WideShapes.add_plain, ← Nat.add_assoc] at this
    exact this

theorem faultTells_open {H : Type} {enc : TypeId × Value → H} {d0 d1 : DataW H} {p0 p1 : List MemPlace} {q : Prop} (W : World) (base : Nat) (v0 v1 : Value)
    (h0 : DataW.Trod enc Tryd.prog W 0 (fun _ => true) true 3 v0 d0 p0) (h1 : DataW.Trod enc Tryd.prog W 0 (fun _ => true) true 22 v1 d1 p1)
    (k0 : Value.okWide Tryd.prog W .any base 3 v0) (k1 : Value.okWide Tryd.prog W .any base 22 v1) (_ : q) (hL : laidMetH Tryd.prog Rows.faultTellsRow.laid W) :
    Calls Tryd.prog 3 #[v0, v1] W fun e W' => e = .returned (.bool true) ∧ Below W.heap.size W W' := by
  obtain ⟨c, rfl, rfl, rfl, wx⟩ := ChangeShapes.open_int Tryd.underlying3 k0 h0
  obtain ⟨len, ws, hw⟩ := wraps_of k1 h1
  obtain ⟨s, hs⟩ := snt_of_laid rfl rfl hL
  by_cases h0 : c = 0
  · subst h0; exact tells_zero v1 W s hs
  by_cases h22 : c = 22
  · subst h22; exact tells_other v1 W s hs
  exact tells_some c h0 h22 v1 len ws W s hs hw
end Go.Proofs.YtmihmaajfcdofaaDoorR
