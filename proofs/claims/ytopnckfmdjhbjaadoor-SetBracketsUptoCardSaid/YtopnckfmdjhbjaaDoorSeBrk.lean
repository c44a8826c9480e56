/- SetBrackets' walk, opened (gen_sbr.py). -/
import Derived.Test.YtopnckfmdjhbjaaDoorKRpa
import Derived.Test.YtopnckfmdjhbjaaDoorSeCy
import Derived.Test.YtopnckfmdjhbjaaDoorSeMor
import Derived.Test.YtopnckfmdjhbjaaDoorSeAwk
import Derived.Test.YtopnckfmdjhbjaaDoorKFb
import Derived.Test.YtopnckfmdjhbjaaDoorFaSn2
import Derived.Test.YtopnckfmdjhbjaaDoorSlB
import Derived.Test.YtopnckfmdjhbjaaDoorRows
namespace Go.Proofs.YtopnckfmdjhbjaaDoor
open Go.RowKit

set_option maxRecDepth 100000 in
theorem eq_fault (a b c : Int) (w : World) :
    (Op.equalIn 10000 28 (.agg #[.int .i64 a, .int .i64 b, .int .i64 c]) (.agg #[.int .i64 a, .int .i64 b, .int .i64 c])).run Tryd.prog w = .ok true w := by
  have hf : (Tryd.prog.fieldsOf 28).toList.map (fun f => (f.name, f.type, f.offset)) = [("Code", 3, 0), ("Pos", 3, 1), ("Lang", 3, 2)] := by kernel_rfl
  have hu : Tryd.prog.underlying 28 = some (.struct (Tryd.prog.fieldsOf 28)) := by kernel_rfl
  have hs : Tryd.prog.stoodInHeld 28 = false := by kernel_rfl
  obtain ⟨f0, r0, e0, hf0, hr0⟩ := List.map_eq_cons_iff.1 hf
  obtain ⟨f1, r1, e1, hf1, hr1⟩ := List.map_eq_cons_iff.1 hr0
  obtain ⟨f2, r2, e2, hf2, hr2⟩ := List.map_eq_cons_iff.1 hr1
  have er : r2 = [] := List.map_eq_nil_iff.1 hr2
  subst er
  subst e2
  subst e1
  simp only [Prod.mk.injEq] at hf0 hf1 hf2
  have hp0 : ∀ (a b c : Value) (w : World), (part 3 #[a, b, c] 0).run Tryd.prog w = .ok a w := fun a b c w => by kernel_rfl
  have hp1 : ∀ (a b c : Value) (w : World), (part 3 #[a, b, c] 1).run Tryd.prog w = .ok b w := fun a b c w => by kernel_rfl
  have hp2 : ∀ (a b c : Value) (w : World), (part 3 #[a, b, c] 2).run Tryd.prog w = .ok c w := fun a b c w => by kernel_rfl
  have hi : ∀ (d : Nat) (a b : Int) (w : World), (Op.equalIn (d + 1) 3 (.int .i64 a) (.int .i64 b)).run Tryd.prog w = .ok (a == b) w := fun d a b w => run_equalIn_int w d _ .i64 .i64 a b Tryd.underlying3
  rw [show (10000 : Nat) = 9999 + 1 from rfl, run_equalIn_agg w 9999 _ _ _ hu hs, e0]
  simp only [Op.eqFields, hf0.1, hf0.2.1, hf0.2.2, hf1.1, hf1.2.1, hf1.2.2, hf2.1, hf2.2.1, hf2.2.2]
  have hi9 := fun (a b : Int) (w : World) => hi 9998 a b w
  simp [Sem.run_bind, Sem.run_ite, hp0, hp1, hp2, hi9]
/-- What lies at the end. -/
structure BrI (w w1 : World) (p : Nat → Bool) (b1 b2 b3 : Nat) (c pos lgf : Int) (X : World) : Prop where
  bel : Below w.heap.size w X
  bel1 : Below w1.heap.size w1 X
  s : X.heap[b1]? = some (.cells #[.int .u64 (sw p 0 : Nat), .int .u64 (sw p 1 : Nat), .int .u64 (sw p 2 : Nat), .int .u64 (sw p 3 : Nat)] 53 (0, 0))
  t : X.heap[b2]? = some (.cells #[.int .u64 (sw p 0 : Nat), .int .u64 (sw p 1 : Nat), .int .u64 (sw p 2 : Nat), .int .u64 (sw p 3 : Nat)] 53 (0, 0))
  f : X.heap[b3]? = some (.cells #[.int .i64 c, .int .i64 pos, .int .i64 lgf] 28 (0, 0))
theorem BrI.nxt {w w1 : World} {p : Nat → Bool} {b1 b2 b3 : Nat} {c pos lgf : Int} {X X' : World} (h : BrI w w1 p b1 b2 b3 c pos lgf X) (hb : Below X.heap.size X X') : BrI w w1 p b1 b2 b3 c pos lgf X' :=
  ⟨below_thn h.bel (Nat.le_refl _) hb, below_thn h.bel1 (Nat.le_refl _) hb, blk_below h.s hb, blk_below h.t hb, blk_below h.f hb⟩

set_option maxRecDepth 100000 in
set_option maxHeartbeats 8000000 in
theorem sbr_walk (w : World) (v0 : Value) (pl lg nx c pos lgf : Int) (p : Nat → Bool) (Φ : Value → World → Prop)
    (HB : Hid (Calls Tryd.prog 29 #[v0, .int .i64 pl, .int .i64 lg] w fun x w' => ∃ v, x = .returned (.tuple #[.agg #[.int .u64 (sw p 0 : Nat), .int .u64 (sw p 1 : Nat), .int .u64 (sw p 2 : Nat), .int .u64 (sw p 3 : Nat)], .int .i64 nx, v]) ∧ Φ v w' ∧ Below w.heap.size w w'))
    (HR : Hid (∀ X, Below w.heap.size w X → Calls Tryd.prog 30 #[v0, .int .i64 pl, .int .i64 lg] X fun x w' => x = .returned (.tuple #[.agg #[.int .u64 (sw p 0 : Nat), .int .u64 (sw p 1 : Nat), .int .u64 (sw p 2 : Nat), .int .u64 (sw p 3 : Nat)], .int .i64 nx, .agg #[.int .i64 c, .int .i64 pos, .int .i64 lgf]]) ∧ Below X.heap.size X w'))
    (HT : Hid (∀ v w1 X, Φ v w1 → Below w.heap.size w w1 → Below w1.heap.size w1 X → Calls Tryd.prog 31 #[v] X fun x w' => x = .returned (.agg #[.int .i64 c, .int .i64 pos, .int .i64 lgf]) ∧ Below X.heap.size X w')) :
    Calls Tryd.prog 11 #[v0, .int .i64 pl, .int .i64 lg] w fun x w' => x = .returned (.bool true) ∧ Below w.heap.size w w' := by
  have EQ := Lib.hid (eq_yesM p p (fun _ _ => rfl))
  have EF := Lib.hid (eq_fault c pos lgf)
  go_enter Tryd.func11, Tryd.ntmps11
  go_wp2_with fail
  refine HB.out.mono ?_
  rintro x w1 ⟨v, rfl, hΦ, hb1⟩
  have HB1 := Lib.hid hb1
  have HTT := Lib.hid (fun X hX => HT.out v w1 X hΦ hb1 hX)
  clear hb1 hΦ
  have HBa : Hid (Below w.heap.size w (w1.alloc (.cells #[.int .u64 (sw p 0 : Nat), .int .u64 (sw p 1 : Nat), .int .u64 (sw p 2 : Nat), .int .u64 (sw p 3 : Nat)] 53))) := Lib.hid (HB1.out.alloc HB1.out.size _)
  have HBb : Hid (Below w1.heap.size w1 (w1.alloc (.cells #[.int .u64 (sw p 0 : Nat), .int .u64 (sw p 1 : Nat), .int .u64 (sw p 2 : Nat), .int .u64 (sw p 3 : Nat)] 53))) := Lib.hid ((Below.refl _ _).alloc (Nat.le_refl _) _)
  have HRR := Lib.hid (HR.out _ HBa.out)
  have HS1 := Lib.hid (alloc_last w1 (.cells #[.int .u64 (sw p 0 : Nat), .int .u64 (sw p 1 : Nat), .int .u64 (sw p 2 : Nat), .int .u64 (sw p 3 : Nat)] 53))
  go_wp2_with fail
  refine HRR.out.mono ?_
  rintro x w2 ⟨rfl, hb2⟩
  have HI : Hid (BrI w w1 p w1.heap.size w2.heap.size (w2.heap.size + 1) c pos lgf ((w2.alloc (.cells #[.int .u64 (sw p 0 : Nat), .int .u64 (sw p 1 : Nat), .int .u64 (sw p 2 : Nat), .int .u64 (sw p 3 : Nat)] 53)).alloc (.cells #[.int .i64 c, .int .i64 pos, .int .i64 lgf] 28))) := Lib.hid (by
    have h1 := below_thn HBa.out (Nat.le_refl _) hb2
    have h2 := below_thn HBb.out (Nat.le_refl _) hb2
    have h3 := alloc_last (w2.alloc (.cells #[.int .u64 (sw p 0 : Nat), .int .u64 (sw p 1 : Nat), .int .u64 (sw p 2 : Nat), .int .u64 (sw p 3 : Nat)] 53)) (.cells #[.int .i64 c, .int .i64 pos, .int .i64 lgf] 28)
    simp only [World.size_alloc] at h3
    exact ⟨(h1.alloc h1.size _).alloc (by have := h1.size; simp; omega) _, (h2.alloc h2.size _).alloc (by have := h2.size; simp; omega) _, blk_alloc (blk_alloc (blk_below HS1.out hb2) _) _, blk_alloc (alloc_last w2 _) _, h3⟩)
  clear hb2 HRR HS1
  go_wp2_with fail
  obtain ⟨w3, hV⟩ : ∃ V, V = ((w2.alloc (.cells #[.int .u64 (sw p 0 : Nat), .int .u64 (sw p 1 : Nat), .int .u64 (sw p 2 : Nat), .int .u64 (sw p 3 : Nat)] 53)).alloc (.cells #[.int .i64 c, .int .i64 pos, .int .i64 lgf] 28)) := ⟨_, rfl⟩
  rw [← hV] at HI ⊢
  clear hV
  refine Reg.wp_region_vals (fun X => BrI w w1 p w1.heap.size w2.heap.size (w2.heap.size + 1) c pos lgf X) (fun j => ([some (.agg #[.int .u64 (sw p 0 : Nat), .int .u64 (sw p 1 : Nat), .int .u64 (sw p 2 : Nat), .int .u64 (sw p 3 : Nat)]), some (.agg #[.int .u64 (sw p 0 : Nat), .int .u64 (sw p 1 : Nat), .int .u64 (sw p 2 : Nat), .int .u64 (sw p 3 : Nat)]), some (.bool true), some (.bool true), some (.int .i64 nx), some (.int .i64 nx), some (.bool true), some (.bool true), some (.bool true), some (v), some (.agg #[.int .i64 c, .int .i64 pos, .int .i64 lgf]), some (.agg #[.int .i64 c, .int .i64 pos, .int .i64 lgf]), some (.bool true), some (.bool true), some (.bool true), some (.bool true), some (.bool true), some (.bool true)] : List (Option Value)).getD j none) (fun _ _ _ => True) (by kernel_rfl) (by kernel_rfl) (by kernel_rfl) (by kernel_rfl) ?rs0 ?rsE ?rsZ
  case rs0 => exact HI.out.nxt (Below.refl _ _).drew
  case rsE =>
    refine Reg.EachV.plain rfl (fun T X hS hk K hK => ?_) ?_
    · skip
      have g7 : T[7]? = some (.pointer (some ⟨w1.heap.size, 0, none⟩)) := hk.old 7 (by kernel_rfl) rfl
      obtain ⟨⟨y0, y1, y2, y3⟩, _, yz⟩ := cells4 hS.s
      have hK := hK _ X hS (Reg.Is.of_val rfl) (fun _ _ _ h => h)
      clear hk
      go_simp
      exact hK
    refine Reg.EachV.plain rfl (fun T X hS hk K hK => ?_) ?_
    · skip
      have g10 : T[10]? = some (.pointer (some ⟨w2.heap.size, 0, none⟩)) := hk.old 10 (by kernel_rfl) rfl
      obtain ⟨⟨y0, y1, y2, y3⟩, _, yz⟩ := cells4 hS.t
      have hK := hK _ X hS (Reg.Is.of_val rfl) (fun _ _ _ h => h)
      clear hk
      go_simp
      exact hK
    refine Reg.EachV.plain rfl (fun T X hS hk K hK => ?_) ?_
    · skip
      have g29 : T[29]? = some (.agg #[.int .u64 (sw p 0 : Nat), .int .u64 (sw p 1 : Nat), .int .u64 (sw p 2 : Nat), .int .u64 (sw p 3 : Nat)]) := hk.val 0 29 (by kernel_rfl) (by kernel_rfl) rfl
      have g30 : T[30]? = some (.agg #[.int .u64 (sw p 0 : Nat), .int .u64 (sw p 1 : Nat), .int .u64 (sw p 2 : Nat), .int .u64 (sw p 3 : Nat)]) := hk.val 1 30 (by kernel_rfl) (by kernel_rfl) rfl
      have q1 := EQ.out
      have hK := hK _ X hS (Reg.Is.of_val rfl) (fun _ _ _ h => h)
      clear hk
      go_simp
      exact hK
    refine Reg.EachV.plain rfl (fun T X hS hk K hK => ?_) ?_
    · skip
      have g31 : T[31]? = some (.bool true) := hk.val 2 31 (by kernel_rfl) (by kernel_rfl) rfl
      have hK := hK _ X hS (Reg.Is.of_val rfl) (fun _ _ _ h => h)
      clear hk
      go_simp
      exact hK
    refine Reg.EachV.guarded 3 32 true rfl (by kernel_rfl) (by kernel_rfl) rfl (fun T X hS hk K hK => ?_) ?_
    · skip
      have g8 : T[8]? = some (.int .i64 nx) := hk.old 8 (by kernel_rfl) rfl
      have hK := hK _ X hS (Reg.Is.of_val rfl) (fun _ _ _ h => h)
      clear hk
      go_simp
      exact hK
    refine Reg.EachV.guarded 3 32 true rfl (by kernel_rfl) (by kernel_rfl) rfl (fun T X hS hk K hK => ?_) ?_
    · skip
      have g11 : T[11]? = some (.int .i64 nx) := hk.old 11 (by kernel_rfl) rfl
      have hK := hK _ X hS (Reg.Is.of_val rfl) (fun _ _ _ h => h)
      clear hk
      go_simp
      exact hK
    refine Reg.EachV.guarded 3 32 true rfl (by kernel_rfl) (by kernel_rfl) rfl (fun T X hS hk K hK => ?_) ?_
    · skip
      have g33 : T[33]? = some (.int .i64 nx) := hk.val 4 33 (by kernel_rfl) (by kernel_rfl) rfl
      have g34 : T[34]? = some (.int .i64 nx) := hk.val 5 34 (by kernel_rfl) (by kernel_rfl) rfl
      have hK := hK _ X hS (Reg.Is.of_val rfl) (fun _ _ _ h => h)
      clear hk
      go_simp
      exact hK
    refine Reg.EachV.plain rfl (fun T X hS hk K hK => ?_) ?_
    · skip
      have g32 : T[32]? = some (.bool true) := hk.val 3 32 (by kernel_rfl) (by kernel_rfl) rfl
      have g35 : T[35]? = some (.bool true) := hk.val 6 35 (by kernel_rfl) (by kernel_rfl) rfl
      have hK := hK _ X hS (Reg.Is.of_val rfl) (fun _ _ _ h => h)
      clear hk
      go_simp
      exact hK
    refine Reg.EachV.plain rfl (fun T X hS hk K hK => ?_) ?_
    · skip
      have g36 : T[36]? = some (.bool true) := hk.val 7 36 (by kernel_rfl) (by kernel_rfl) rfl
      have hK := hK _ X hS (Reg.Is.of_val rfl) (fun _ _ _ h => h)
      clear hk
      go_simp
      exact hK
    refine Reg.EachV.guarded 8 37 true rfl (by kernel_rfl) (by kernel_rfl) rfl (fun T X hS hk K hK => ?_) ?_
    · skip
      have g9 : T[9]? = some (v) := hk.old 9 (by kernel_rfl) rfl
      have hK := hK _ X hS (Reg.Is.of_val rfl) (fun _ _ _ h => h)
      clear hk
      go_simp
      exact hK
    refine Reg.EachV.guarded 8 37 true rfl (by kernel_rfl) (by kernel_rfl) rfl (fun T X hS hk K hK => ?_) ?_
    · skip
      have g38 : T[38]? = some (v) := hk.val 9 38 (by kernel_rfl) (by kernel_rfl) rfl
      clear hk
      go_simp
      refine (HTT.out X hS.bel1).mono ?_
      rintro e w1 ⟨rfl, hb⟩
      exact hK _ _ (hS.nxt hb) (Reg.Is.of_val rfl) (fun _ _ _ h => h)
    refine Reg.EachV.guarded 8 37 true rfl (by kernel_rfl) (by kernel_rfl) rfl (fun T X hS hk K hK => ?_) ?_
    · skip
      have g12 : T[12]? = some (.pointer (some ⟨w2.heap.size + 1, 0, none⟩)) := hk.old 12 (by kernel_rfl) rfl
      have y80 : X.cell? ⟨w2.heap.size + 1, 0, none⟩ = some (.int .i64 c) := by rw [Lib.cell_of_heap hS.f]; rfl
      have y81 : X.cell? ⟨w2.heap.size + 1, 1, none⟩ = some (.int .i64 pos) := by rw [Lib.cell_of_heap hS.f]; rfl
      have y82 : X.cell? ⟨w2.heap.size + 1, 2, none⟩ = some (.int .i64 lgf) := by rw [Lib.cell_of_heap hS.f]; rfl
      have yz := lt_blkB hS.f
      have hK := hK _ X hS (Reg.Is.of_val rfl) (fun _ _ _ h => h)
      clear hk
      go_simp
      exact hK
    refine Reg.EachV.guarded 8 37 true rfl (by kernel_rfl) (by kernel_rfl) rfl (fun T X hS hk K hK => ?_) ?_
    · skip
      have g39 : T[39]? = some (.agg #[.int .i64 c, .int .i64 pos, .int .i64 lgf]) := hk.val 10 39 (by kernel_rfl) (by kernel_rfl) rfl
      have g40 : T[40]? = some (.agg #[.int .i64 c, .int .i64 pos, .int .i64 lgf]) := hk.val 11 40 (by kernel_rfl) (by kernel_rfl) rfl
      have q2 := EF.out
      have hK := hK _ X hS (Reg.Is.of_val rfl) (fun _ _ _ h => h)
      clear hk
      go_simp
      exact hK
    refine Reg.EachV.plain rfl (fun T X hS hk K hK => ?_) ?_
    · skip
      have g37 : T[37]? = some (.bool true) := hk.val 8 37 (by kernel_rfl) (by kernel_rfl) rfl
      have g41 : T[41]? = some (.bool true) := hk.val 12 41 (by kernel_rfl) (by kernel_rfl) rfl
      have hK := hK _ X hS (Reg.Is.of_val rfl) (fun _ _ _ h => h)
      clear hk
      go_simp
      exact hK
    refine Reg.EachV.plain rfl (fun T X hS hk K hK => ?_) ?_
    · skip
      have g42 : T[42]? = some (.bool true) := hk.val 13 42 (by kernel_rfl) (by kernel_rfl) rfl
      have hK := hK _ X hS (Reg.Is.of_val rfl) (fun _ _ _ h => h)
      clear hk
      go_simp
      exact hK
    refine Reg.EachV.guarded 14 43 true rfl (by kernel_rfl) (by kernel_rfl) rfl (fun T X hS hk K hK => ?_) ?_
    · skip
      clear hk
      go_simp
      refine (awake5_any X).mono ?_
      rintro e w1 ⟨rfl, hb⟩
      exact hK _ _ (hS.nxt hb) (Reg.Is.of_val rfl) (fun _ _ _ h => h)
    refine Reg.EachV.plain rfl (fun T X hS hk K hK => ?_) ?_
    · skip
      have g43 : T[43]? = some (.bool true) := hk.val 14 43 (by kernel_rfl) (by kernel_rfl) rfl
      have g44 : T[44]? = some (.bool true) := hk.val 15 44 (by kernel_rfl) (by kernel_rfl) rfl
      have hK := hK _ X hS (Reg.Is.of_val rfl) (fun _ _ _ h => h)
      clear hk
      go_simp
      exact hK
    refine Reg.EachV.plain rfl (fun T X hS hk K hK => ?_) ?_
    · skip
      have g45 : T[45]? = some (.bool true) := hk.val 16 45 (by kernel_rfl) (by kernel_rfl) rfl
      have hK := hK _ X hS (Reg.Is.of_val rfl) (fun _ _ _ h => h)
      clear hk
      go_simp
      exact hK
    exact Reg.EachV.nil
  case rsZ =>
    intro u w1 hS hI
    have e0 : u 0 = .agg #[.int .u64 (sw p 0 : Nat), .int .u64 (sw p 1 : Nat), .int .u64 (sw p 2 : Nat), .int .u64 (sw p 3 : Nat)] := (hI 0 (by decide)).val rfl
    have e1 : u 1 = .agg #[.int .u64 (sw p 0 : Nat), .int .u64 (sw p 1 : Nat), .int .u64 (sw p 2 : Nat), .int .u64 (sw p 3 : Nat)] := (hI 1 (by decide)).val rfl
    have e2 : u 2 = .bool true := (hI 2 (by decide)).val rfl
    have e3 : u 3 = .bool true := (hI 3 (by decide)).val rfl
    have e4 : u 4 = .int .i64 nx := (hI 4 (by decide)).val rfl
    have e5 : u 5 = .int .i64 nx := (hI 5 (by decide)).val rfl
    have e6 : u 6 = .bool true := (hI 6 (by decide)).val rfl
    have e7 : u 7 = .bool true := (hI 7 (by decide)).val rfl
    have e8 : u 8 = .bool true := (hI 8 (by decide)).val rfl
    have e9 : u 9 = v := (hI 9 (by decide)).val rfl
    have e10 : u 10 = .agg #[.int .i64 c, .int .i64 pos, .int .i64 lgf] := (hI 10 (by decide)).val rfl
    have e11 : u 11 = .agg #[.int .i64 c, .int .i64 pos, .int .i64 lgf] := (hI 11 (by decide)).val rfl
    have e12 : u 12 = .bool true := (hI 12 (by decide)).val rfl
    have e13 : u 13 = .bool true := (hI 13 (by decide)).val rfl
    have e14 : u 14 = .bool true := (hI 14 (by decide)).val rfl
    have e15 : u 15 = .bool true := (hI 15 (by decide)).val rfl
    have e16 : u 16 = .bool true := (hI 16 (by decide)).val rfl
    have e17 : u 17 = .bool true := (hI 17 (by decide)).val rfl
    clear hI
    simp only [Reg.putAll, Act.put, List.setIfInBounds_toArray, List.set_cons_succ, List.set_cons_zero, Nat.zero_add, Nat.reduceAdd, e0, e1, e2, e3, e4, e5, e6, e7, e8, e9, e10, e11, e12, e13, e14, e15, e16, e17]
    clear e0 e1 e2 e3 e4 e5 e6 e7 e8 e9 e10 e11 e12 e13 e14 e15 e16 e17
    have HZ := Lib.hid hS.bel
    clear hS
    go_wp2
    go_ret
    exact ⟨rfl, HZ.out⟩

theorem partR_code {cf : ByteArray → (Nat → Bool) × Bool} {s : ByteArray} {g : Bool} {k c pos : Nat} (h : partR cf s g k = .bad c pos) : c = 7 ∨ c = 8 := by
  unfold partR at h
  cases h1 : itemR cf s g k with
  | bad p => rw [h1] at h; injection h with h h'; exact Or.inr h.symm
  | cls p n => rw [h1] at h; cases h
  | byt d n =>
    rw [h1] at h
    simp only at h
    split at h
    · cases h2 : itemR cf s g (n + 1) with
      | bad p => rw [h2] at h; injection h with h h'; exact Or.inr h.symm
      | cls p n2 => rw [h2] at h; injection h with h h'; exact Or.inr h.symm
      | byt d2 n2 =>
        rw [h2] at h
        simp only at h
        split at h
        · injection h with h h'; exact Or.inl h.symm
        · cases h
    · cases h
theorem brkL_code78 {cf : ByteArray → (Nat → Bool) × Bool} {s : ByteArray} {g : Bool} {c pos : Nat} : ∀ (n k : Nat) (f : Bool) (p : Nat → Bool), 0 < n → s.size + 1 - k ≤ n → k ≤ s.size → brkL cf s g n k f p = .bad c pos → c = 7 ∨ c = 8
  | 0, _, _, _, h0, _, _, _ => absurd h0 (Nat.lt_irrefl _)
  | n + 1, k, f, p, _, hn, hk, h => by
    unfold brkL at h
    split at h
    · cases h
    · split at h
      · rename_i hp
        simp only [BR.bad.injEq] at h
        rw [← h.1]
        exact partR_code hp
      · rename_i hp
        have := partR_next hp
        exact brkL_code78 n _ false _ (by omega) (by omega) (by omega) h
theorem brkR_code (cf : ByteArray → (Nat → Bool) × Bool) (s : ByteArray) (g : Bool) {c pos : Nat} (h : brkR cf s g 0 = .bad c pos) : c = 7 ∨ c = 8 := by
  unfold brkR at h
  split at h
  · rename_i hc
    have h0 := atB_in (s := s) (k := 0) (by rcases hc with hc | hc <;> omega)
    cases hb : brkL cf s g (s.size + 1 - (0 + 1)) (0 + 1) true noP with
    | ok p nx => rw [hb] at h; cases h
    | bad c' pos' =>
      rw [hb] at h
      simp only [brkT, BR.bad.injEq] at h
      rw [← h.1]
      exact brkL_code78 _ _ _ _ (by omega) (Nat.le_refl _) (by omega) hb
  · cases hb : brkL cf s g (s.size + 1 - 0) 0 true noP with
    | ok p nx => rw [hb] at h; cases h
    | bad c' pos' =>
      rw [hb] at h
      simp only [brkT, BR.bad.injEq] at h
      rw [← h.1]
      exact brkL_code78 _ _ _ _ (by omega) (Nat.le_refl _) (by omega) hb
theorem sv_no : SV noP = .agg #[.int .u64 0, .int .u64 0, .int .u64 0, .int .u64 0] := by
  have z : ∀ i, ((sw noP i : Nat) : Int) = 0 := sw_zero
  unfold SV
  rw [z, z, z, z]
theorem setbr_any (cf : ByteArray → (Nat → Bool) × Bool) (hcf : ClassOk cf) (hrf : ClassRf cf) (e : Nat → Addr) (w : World) (v0 : Value) (l : List Int) (pl lg : Int) (hs : Sl w v0 l) (hb47 : l.length ≤ 140737488351232) (hsn : Snt w e) :
    Calls Tryd.prog 11 #[v0, .int .i64 pl, .int .i64 lg] w fun x w' => x = .returned (.bool true) ∧ Below w.heap.size w w' := by
  have hes : Es w w.heap.size e := ⟨hsn.var, by have := hsn.low; omega, Nat.le_refl _⟩
  obtain ⟨ad, cap, hv⟩ : ∃ ad cap, v0 = .slice ad l.length cap := by
    rcases hs.2.2 with ⟨rfl, ad, cap, rfl⟩ | ⟨x, o, cap, rfl, _⟩
    · exact ⟨ad, cap, rfl⟩
    · exact ⟨_, cap, rfl⟩
  have bad : ∀ (c : Nat) (pos : Int), 1 ≤ c → c ≤ 21 → (Calls Tryd.prog 29 #[v0, .int .i64 pl, .int .i64 lg] w fun x w' => ∃ v, x = .returned (.tuple #[SV noP, .int .i64 0, v]) ∧ ErrS w' w.heap.size e lg c pos v ∧ Below w.heap.size w w') →
      (∀ X, Below w.heap.size w X → Calls Tryd.prog 30 #[v0, .int .i64 pl, .int .i64 lg] X fun x w' => x = .returned (.tuple #[.agg #[.int .u64 0, .int .u64 0, .int .u64 0, .int .u64 0], .int .i64 0, .agg #[.int .i64 c, .int .i64 pos, .int .i64 lg]]) ∧ Below X.heap.size X w') →
      Calls Tryd.prog 11 #[v0, .int .i64 pl, .int .i64 lg] w fun x w' => x = .returned (.bool true) ∧ Below w.heap.size w w' := fun c pos h1 h2 hp hr => by
    refine sbr_walk w v0 pl lg 0 c pos lg noP (fun v w' => ErrS w' w.heap.size e lg c pos v) (Lib.hid hp) (Lib.hid fun X hX => ?_) (Lib.hid fun v w1 X her hb1 hX => ?_)
    · have := hr X hX
      rw [← sv_no] at this
      exact this
    · have her' : ErrS X w.heap.size e lg c pos v := her.kept hX.size fun j _ hj => hX.block j hj
      have := tell_any [(true, lg), (false, pos)] v (e c) e c X (hsn.below (below_thn hb1 (Nat.le_refl _) hX)) ((hsn.below (below_thn hb1 (Nat.le_refl _) hX)).rt c h1 h2) her'.chn
      simpa [firstOf] using this
  by_cases harg : argBad l.length pl lg
  · refine bad 1 0 (by decide) (by decide) ?_ fun X hX => ?_
    · rw [hv]; exact bkt_arg e ad l.length cap pl lg w hes harg (by omega)
    · rw [hv]; exact rbrk_arg ad l.length cap pl lg X harg (by omega)
  · obtain ⟨k, rfl⟩ : ∃ k : Nat, pl = (k : Int) := ⟨pl.toNat, by unfold argBad at harg; omega⟩
    have hk : k ≤ l.length := by unfold argBad at harg; omega
    have hlg : lg = 2 ∨ lg = 3 ∨ lg = 4 := by unfold argBad at harg; omega
    have h1 := bkt_any cf hcf e v0 l k lg hb47 w hes hs hk hlg
    have h2 := fun X (hX : Below w.heap.size w X) => rbrk_any cf hrf v0 l k lg X (hs.below hX) hk hb47 hlg
    cases hR : brkR cf (ofBys (l.drop k)) (decide (lg = 2)) 0 with
    | ok p nx =>
      rw [hR] at h1
      simp only [hR] at h2
      refine sbr_walk w v0 k lg ((k + nx : Nat) : Int) 0 0 0 p (fun v _ => v = .nilIface) (Lib.hid (h1.mono ?_)) (Lib.hid h2) (Lib.hid fun v w1 X hv _ _ => ?_)
      · rintro x w' ⟨rfl, hb⟩
        exact ⟨_, rfl, rfl, hb⟩
      · rw [hv]; exact tell_nil X
    | bad c pos =>
      rw [hR] at h1
      simp only [hR] at h2
      have hc := brkR_code cf _ _ hR
      exact bad c ((k + pos : Nat) : Int) (by omega) (by omega) h1 h2

set_option maxRecDepth 100000 in
theorem setBrackets_open {H : Type} {enc : TypeId × Value → H} {d0 d1 d2 : DataW H} {p0 p1 p2 : List MemPlace} {q : Prop} (W : World) (base : Nat) (v0 v1 v2 : Value)
    (h0 : DataW.Trod enc Tryd.prog W 0 (fun _ => true) true 22 v0 d0 p0) (h1 : DataW.Trod enc Tryd.prog W 0 (fun _ => true) true 3 v1 d1 p1) (h2 : DataW.Trod enc Tryd.prog W 0 (fun _ => true) true 3 v2 d2 p2)
    (k0 : Value.okWide Tryd.prog W .any base 22 v0) (k1 : Value.okWide Tryd.prog W .any base 3 v1) (k2 : Value.okWide Tryd.prog W .any base 3 v2) (_ : q)
    (hk : Rows.uptoSmall H [d0, d1, d2] = true) (hL : laidMetH Tryd.prog Rows.setBracketsUptoRow.laid W) :
    Calls Tryd.prog 11 #[v0, v1, v2] W fun e W' => e = .returned (.bool true) ∧ Below W.heap.size W W' := by
  obtain ⟨l, hs, hl⟩ := sl_of_b k0 h0
  obtain ⟨e, hsn⟩ := snt_of_laid2 (by kernel_rfl) (by kernel_rfl) hL
  obtain ⟨cf, hcf, hrf⟩ := classes_ok2
  obtain ⟨pl, rfl, _, _, _⟩ := ChangeShapes.open_int Tryd.underlying3 k1 h1
  obtain ⟨lg, rfl, _, _, _⟩ := ChangeShapes.open_int Tryd.underlying3 k2 h2
  have hb : Rows.uptoBulkAll [d0, d1, d2] ≤ 1048576 := of_decide_eq_true hk
  simp only [Rows.uptoBulkAll] at hb
  exact setbr_any cf hcf hrf e W v0 l pl lg hs (by omega) hsn
end Go.Proofs.YtopnckfmdjhbjaaDoor
