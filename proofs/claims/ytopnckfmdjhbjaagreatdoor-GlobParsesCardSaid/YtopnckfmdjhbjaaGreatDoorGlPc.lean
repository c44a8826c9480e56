/- GlobParses and GlobPlain: what lies; Snt out of a row with tables (gen_gps.py). -/
import Derived.Test.YtopnckfmdjhbjaaGreatDoorKRpa
import Derived.Test.YtopnckfmdjhbjaaGreatDoorGlO
import Derived.Test.YtopnckfmdjhbjaaGreatDoorKFb
import Derived.Test.YtopnckfmdjhbjaaGreatDoorFaSn2
namespace Go.Proofs.YtopnckfmdjhbjaaGreatDoor
open Go.RowKit

set_option maxRecDepth 100000 in
theorem eq_fault (a b c : Int) (w : World) :
    (Op.equalIn 10000 30 (.agg #[.int .i64 a, .int .i64 b, .int .i64 c]) (.agg #[.int .i64 a, .int .i64 b, .int .i64 c])).run Tryz.prog w = .ok true w := by
  have hf : (Tryz.prog.fieldsOf 30).toList.map (fun f => (f.name, f.type, f.offset)) = [("Code", 3, 0), ("Pos", 3, 1), ("Lang", 3, 2)] := by kernel_rfl
  have hu : Tryz.prog.underlying 30 = some (.struct (Tryz.prog.fieldsOf 30)) := by kernel_rfl
  have hs : Tryz.prog.stoodInHeld 30 = false := by kernel_rfl
  obtain ⟨f0, r0, e0, hf0, hr0⟩ := List.map_eq_cons_iff.1 hf
  obtain ⟨f1, r1, e1, hf1, hr1⟩ := List.map_eq_cons_iff.1 hr0
  obtain ⟨f2, r2, e2, hf2, hr2⟩ := List.map_eq_cons_iff.1 hr1
  have er : r2 = [] := List.map_eq_nil_iff.1 hr2
  subst er
  subst e2
  subst e1
  simp only [Prod.mk.injEq] at hf0 hf1 hf2
  have hp0 : ∀ (a b c : Value) (w : World), (part 3 #[a, b, c] 0).run Tryz.prog w = .ok a w := fun a b c w => by kernel_rfl
  have hp1 : ∀ (a b c : Value) (w : World), (part 3 #[a, b, c] 1).run Tryz.prog w = .ok b w := fun a b c w => by kernel_rfl
  have hp2 : ∀ (a b c : Value) (w : World), (part 3 #[a, b, c] 2).run Tryz.prog w = .ok c w := fun a b c w => by kernel_rfl
  have hi : ∀ (d : Nat) (a b : Int) (w : World), (Op.equalIn (d + 1) 3 (.int .i64 a) (.int .i64 b)).run Tryz.prog w = .ok (a == b) w := fun d a b w => run_equalIn_int w d _ .i64 .i64 a b Tryz.underlying3
  rw [show (10000 : Nat) = 9999 + 1 from rfl, run_equalIn_agg w 9999 _ _ _ hu hs, e0]
  simp only [Op.eqFields, hf0.1, hf0.2.1, hf0.2.2, hf1.1, hf1.2.1, hf1.2.2, hf2.1, hf2.2.1, hf2.2.2]
  have hi9 := fun (a b : Int) (w : World) => hi 9998 a b w
  simp [Sem.run_bind, Sem.run_ite, hp0, hp1, hp2, hi9]
/-- What lies. -/
structure GpI (w : World) (B1 b B : Nat) (r : Value) (ps : List Pc) (b3 : Nat) (X : World) : Prop where
  bel : Below w.heap.size w X
  pat : PatAt B1 b ps X
  row : X.ownsRow B 55 5 r ps.length (cellsL ps)
  f : X.heap[b3]? = some (.cells #[.int .i64 0, .int .i64 0, .int .i64 0] 30 (0, 0))
theorem GpI.nxt {w : World} {B1 b B : Nat} {r : Value} {ps : List Pc} {b3 : Nat} {X X' : World} (h : GpI w B1 b B r ps b3 X) (hb : Below X.heap.size X X') : GpI w B1 b B r ps b3 X' :=
  ⟨below_thn h.bel (Nat.le_refl _) hb, h.pat.next hb, own_drop h.row hb, blk_below h.f hb⟩
structure GqI (w w1 : World) (b3 : Nat) (X : World) : Prop where
  bel : Below w.heap.size w X
  bel1 : Below w1.heap.size w1 X
  f : X.heap[b3]? = some (.cells #[.int .i64 2, .int .i64 0, .int .i64 2] 30 (0, 0))
theorem GqI.nxt {w w1 : World} {b3 : Nat} {X X' : World} (h : GqI w w1 b3 X) (hb : Below X.heap.size X X') : GqI w w1 b3 X' :=
  ⟨below_thn h.bel (Nat.le_refl _) hb, below_thn h.bel1 (Nat.le_refl _) hb, blk_below h.f hb⟩

def sentKeepH (x : String × DataW Unit) : Bool := (sentNames.map (·.1)).contains x.1 || x.1 == "errors.errorType"
theorem snt_of_laid3 {W : World} {L : List (String × DataW Unit)} (hL : (L.filter sentKeepH).filter (fun x => x.2.handleName?.isNone) = sentNames.map sd)
    (hH : (L.filter sentKeepH).filter (fun x => x.2.handleName?.isSome) = [("errors.errorType", .iface "internal/reflectlite.rtype" (.agg [.ptr (.lit (.string [101, 114, 114, 111, 114]))]))])
    (h : laidMetH Tryz.prog L W) : ∃ s, Snt W s := snt_of_laid2 hL hH (laidMetH.filter sentKeepH h)

end Go.Proofs.YtopnckfmdjhbjaaGreatDoor
