/- Two rows of pieces that are the same, compared by the law's loop. -/
import Derived.Test.YtopnckfmdjhbjaaGreatDoorGlM3
import Derived.Test.YtopnckfmdjhbjaaGreatDoorKRfa
import Derived.BigQuiet
namespace Go.Proofs.YtopnckfmdjhbjaaGreatDoor
open Go.RowKit

set_option maxRecDepth 100000 in
theorem neq_piece (k a b c d : Int) (w : World) :
  (binOp .neq 55 (.agg #[.int .i64 k, .int .u64 a, .int .u64 b, .int .u64 c, .int .u64 d]) (.agg #[.int .i64 k, .int .u64 a, .int .u64 b, .int .u64 c, .int .u64 d])).run Tryz.prog w = .ok (.bool false) w := by
 have hf : (Tryz.prog.fieldsOf 55).toList.map (fun f => (f.name, f.type, f.offset)) = [("Kind", 3, 0), ("Set", 53, 1)] := by kernel_rfl
 have hu : Tryz.prog.underlying 55 = some (.struct (Tryz.prog.fieldsOf 55)) := by kernel_rfl
 have hs : Tryz.prog.stoodInHeld 55 = false := by kernel_rfl
 obtain ⟨f0, r0, e0, hf0, hr0⟩ := List.map_eq_cons_iff.1 hf
 obtain ⟨f1, r1, e1, hf1, hr1⟩ := List.map_eq_cons_iff.1 hr0
 have er : r1 = [] := List.map_eq_nil_iff.1 hr1
 subst er
 subst e1
 simp only [Prod.mk.injEq] at hf0 hf1
 have hp0 : ∀ (k a b c d : Value) (w : World), (part 3 #[k, a, b, c, d] 0).run Tryz.prog w = .ok k w := fun k a b c d w => by kernel_rfl
 have hp1 : ∀ (k a b c d : Value) (w : World), (part 53 #[k, a, b, c, d] 1).run Tryz.prog w = .ok (.agg #[a, b, c, d]) w := fun k a b c d w => by kernel_rfl
 have hi : ∀ (d : Nat) (a b : Int) (w : World), (Op.equalIn (d + 1) 3 (.int .i64 a) (.int .i64 b)).run Tryz.prog w = .ok (a == b) w := fun d a b w => run_equalIn_int w d _ .i64 .i64 a b Tryz.underlying3
 rw [run_neq_struct, show (10000 : Nat) = 9999 + 1 from rfl, run_equalIn_agg w 9999 _ _ _ hu hs, e0]
 simp only [Op.eqFields, hf0.1, hf0.2.1, hf0.2.2, hf1.1, hf1.2.1, hf1.2.2]
 have hi9 := fun (a b : Int) (w : World) => hi 9998 a b w
 have he9 := fun (x0 x1 x2 x3 y0 y1 y2 y3 : Int) (w : World) => eq_arr 9997 x0 x1 x2 x3 y0 y1 y2 y3 w
 simp [Sem.run_bind, Sem.run_ite, hp0, hp1, hi9, he9]

set_option maxRecDepth 100000 in
set_option maxHeartbeats 8000000 in
theorem same_any (va vb : Value) (ps : List Pc) (Ba Bb : Nat) (w : World) (ha : w.ownsRow Ba 55 5 va ps.length (cellsL ps)) (hb : w.ownsRow Bb 55 5 vb ps.length (cellsL ps)) (hl : ps.length ≤ 1048576) :
  Calls Tryz.prog 9 #[va, vb] w fun x w' => x = .returned (.bool true) ∧ Below w.heap.size w w' := by
 have HA := Lib.hid ha
 have HB := Lib.hid hb
 obtain ⟨n, hn⟩ : ∃ n, n = ps.length := ⟨_, rfl⟩
 have HN := Lib.hid hn
 obtain ⟨av, acap, hva⟩ := own_shapeK ha
 obtain ⟨bv, bcap, hvb⟩ := own_shapeK hb
 rw [← hn] at hl hva hvb
 subst hva
 subst hvb
 have NE := neq_piece
 clear ha hb hn
 go_enter Tryz.func9, Tryz.ntmps9
 go_wp2
 go_loopw [13] (fun i X => ∃ k, i = .int .i64 (k : Nat) ∧ k ≤ n ∧ Below w.heap.size w X) (fun i _ => n - (intOf i).toNat)
 case atStart => exact ⟨0, rfl, Nat.zero_le _, Below.refl _ _⟩
 case round =>
  obtain ⟨k, rfl, hk, hbl⟩ := hrel
  have HBL := Lib.hid hbl
  clear hbl
  by_cases hlt : k < n
  ·have hltL : k < ps.length := by rw [← HN.out]; exact hlt
   obtain ⟨x, hx⟩ : ∃ x, ps[k]? = some x := ⟨ps[k], List.getElem?_eq_getElem hltL⟩
   have hro := HA.out
   have hrb := HB.out
   rw [← HN.out] at hro hrb
   obtain ⟨g, hg⟩ : ∃ g, av = some ⟨g, 0, none⟩ := by
    rcases hro.2 with ⟨_, h0⟩ | ⟨g, cap', cur, e, _⟩
    ·omega
    ·simp only [Value.slice.injEq] at e
     exact ⟨g, e.1⟩
   subst hg
   obtain ⟨g', hg'⟩ : ∃ g', bv = some ⟨g', 0, none⟩ := by
    rcases hrb.2 with ⟨_, h0⟩ | ⟨g', cap', cur, e, _⟩
    ·omega
    ·simp only [Value.slice.injEq] at e
     exact ⟨g', e.1⟩
   subst hg'
   have hro2 := own_drop hro HBL.out
   have hrb2 := own_drop hrb HBL.out
   have p0 := row_at hro2 hx 0 (by decide) _ rfl
   have p1 := row_at hro2 hx 1 (by decide) _ rfl
   have p2 := row_at hro2 hx 2 (by decide) _ rfl
   have p3 := row_at hro2 hx 3 (by decide) _ rfl
   have p4 := row_at hro2 hx 4 (by decide) _ rfl
   have q0 := row_at hrb2 hx 0 (by decide) _ rfl
   have q1 := row_at hrb2 hx 1 (by decide) _ rfl
   have q2 := row_at hrb2 hx 2 (by decide) _ rfl
   have q3 := row_at hrb2 hx 3 (by decide) _ rfl
   have q4 := row_at hrb2 hx 4 (by decide) _ rfl
   rw [Nat.add_zero] at p0 q0
   have hkI : (k : Int) < (n : Int) := by omega
   clear hro hro2 hrb hrb2 hx
   go_wp2_with fail
   go_quiet (fail)
   go_wp2_with fail
   go_roundw
   case rel => exact ⟨k + 1, by go_num, by omega, below_drewN HBL.out _⟩
   case measure => simp [intOf]; omega
  ·have hke : k = n := by omega
   subst hke
   go_wp2
   go_ret
   exact ⟨rfl, HBL.out⟩
end Go.Proofs.YtopnckfmdjhbjaaGreatDoor
