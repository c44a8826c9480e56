/- The reference's variables: are two rows the same; a row with one set, without one. -/
import Derived.Test.YthpmkpnndbjflaaGreatDoorKVr
import Derived.Test.YthpmkpnndbjflaaGreatDoorKVa
import Derived.BigQuiet
import Derived.Sort.Walk0
namespace Go.Proofs.YthpmkpnndbjflaaGreatDoor
open Go.RowKit

set_option maxRecDepth 100000 in
theorem neq_var (a b c d : ByteArray) (w : World) :
    (Go.binOp BinOp.neq 74 (.agg #[.string a, .string b]) (.agg #[.string c, .string d])).run Tryz.prog w = .ok (.bool (!(a.toList == c.toList && b.toList == d.toList))) w := by
  have hf : (Tryz.prog.fieldsOf 74).toList.map (fun f => (f.name, f.type, f.offset)) = [("Name", 9, 0), ("Value", 9, 1)] := by kernel_rfl
  have hu : Tryz.prog.underlying 74 = some (.struct (Tryz.prog.fieldsOf 74)) := by kernel_rfl
  have hs : Tryz.prog.stoodInHeld 74 = false := by kernel_rfl
  obtain ⟨f0, r0, e0, hf0, hr0⟩ := List.map_eq_cons_iff.1 hf
  obtain ⟨f1, r1, e1, hf1, hr1⟩ := List.map_eq_cons_iff.1 hr0
  have er : r1 = [] := List.map_eq_nil_iff.1 hr1
  subst er
  subst e1
  simp only [Prod.mk.injEq] at hf0 hf1
  have hp0 : ∀ (x y : Value) (w : World), (part 9 #[x, y] 0).run Tryz.prog w = .ok x w := fun x y w => by kernel_rfl
  have hp1 : ∀ (x y : Value) (w : World), (part 9 #[x, y] 1).run Tryz.prog w = .ok y w := fun x y w => by kernel_rfl
  have hi : ∀ (d : Nat) (x y : ByteArray) (w : World), (Op.equalIn (d + 1) 9 (.string x) (.string y)).run Tryz.prog w = .ok (x.toList == y.toList) w := fun d x y w => run_equalIn_string w d _ x y Tryz.underlying9
  rw [run_neq_struct, show (10000 : Nat) = 9999 + 1 from rfl, run_equalIn_agg w 9999 _ _ _ hu hs, e0]
  simp only [Op.eqFields, hf0.1, hf0.2.1, hf0.2.2, hf1.1, hf1.2.1, hf1.2.2]
  have hi9 := fun (x y : ByteArray) (w : World) => hi 9998 x y w
  cases h1 : (a.toList == c.toList) <;> cases h2 : (b.toList == d.toList) <;> simp [Sem.run_bind, Sem.run_ite, hp0, hp1, hi9, h1, h2]
theorem var_eq (p q : ByteArray × ByteArray) : (p.1.toList == q.1.toList && p.2.toList == q.2.toList) = decide (p = q) := by
  obtain ⟨a, b⟩ := p
  obtain ⟨c, d⟩ := q
  rw [Bool.eq_iff_iff, Bool.and_eq_true, beq_iff_eq, beq_iff_eq, decide_eq_true_iff, Prod.mk.injEq, Lib.toList_data, Lib.toList_data, Lib.toList_data, Lib.toList_data]
  exact and_congr ⟨fun h => nmL_inj h, fun h => by rw [h]⟩ ⟨fun h => nmL_inj h, fun h => by rw [h]⟩
theorem vl_ne {a b : Vl} {k : Nat} {p q : ByteArray × ByteArray} (ha : a[k]? = some p) (hb : b[k]? = some q) (h : ¬ p = q) : decide (a = b) = false := decide_eq_false fun e => h (by rw [e, hb] at ha; exact (Option.some.inj ha).symm)

set_option maxRecDepth 100000 in
set_option maxHeartbeats 8000000 in
theorem same_vars (va vb : Value) (a b : Vl) (w : World) (ha : VS w va a) (hb : VS w vb b) (hl : a.length ≤ 1000000) (hl2 : b.length ≤ 1000000) : Calls Tryz.prog 10 #[va, vb] w fun e w' => e = .returned (.bool (decide (a = b))) ∧ Below w.heap.size w w' := by
  obtain ⟨ad, ac, rfl⟩ : ∃ ad ac, va = .slice ad a.length ac := by
    rcases ha with ⟨rfl, x, y, h⟩ | ⟨x, y, z, h, _⟩
    · exact ⟨x, y, h⟩
    · exact ⟨_, z, h⟩
  obtain ⟨bd, bc, rfl⟩ : ∃ bd bc, vb = .slice bd b.length bc := by
    rcases hb with ⟨rfl, x, y, h⟩ | ⟨x, y, z, h, _⟩
    · exact ⟨x, y, h⟩
    · exact ⟨_, z, h⟩
  have HA := Lib.hid ha
  have HB := Lib.hid hb
  have NE := neq_var
  obtain ⟨n, hn⟩ : ∃ n, n = a.length := ⟨_, rfl⟩
  obtain ⟨m, hm⟩ : ∃ m, m = b.length := ⟨_, rfl⟩
  have HN := Lib.hid hn
  have HM := Lib.hid hm
  rw [← hn] at hl
  rw [← hm] at hl2
  rw [← hn, ← hm]
  clear ha hb hn hm
  by_cases hnm : n = m
  · subst hnm
    go_enter Tryz.func10, Tryz.ntmps10
    go_wp2_with fail
    go_loopw [13] (fun i X => ∃ k, i = .int .i64 (k : Nat) ∧ k ≤ n ∧ (∀ j, j < k → a[j]? = b[j]?) ∧ Below w.heap.size w X) (fun i _ => n - (intOf i).toNat)
    case atStart => exact ⟨0, rfl, Nat.zero_le _, fun j hj => by omega, Below.refl _ _⟩
    case round =>
      obtain ⟨k, rfl, hk, hsm, hbl⟩ := hrel
      have HBL := Lib.hid hbl
      have HSM := Lib.hid hsm
      clear hbl hsm
      by_cases hlt : k < n
      · have hltA : k < a.length := by rw [← HN.out]; exact hlt
        have hltB : k < b.length := by rw [← HM.out]; exact hlt
        obtain ⟨p, hp⟩ : ∃ x, a[k]? = some x := ⟨a[k], List.getElem?_eq_getElem hltA⟩
        obtain ⟨q, hq⟩ : ∃ x, b[k]? = some x := ⟨b[k], List.getElem?_eq_getElem hltB⟩
        obtain ⟨g, o, cap, hv, hg, hc⟩ : ∃ g o cap, (.slice ad a.length ac : Value) = .slice (some ⟨g, o, none⟩) a.length cap ∧ g < wr.heap.size ∧ ∀ (j : Nat) (p : ByteArray × ByteArray), a[j]? = some p → wr.cell? ⟨g, o + j * 2, none⟩ = some (.string p.1) ∧ wr.cell? ⟨g, o + j * 2 + 1, none⟩ = some (.string p.2) := by
          rcases HA.out.below HBL.out with ⟨h0, _⟩ | h
          · rw [h0] at hltA; simp at hltA
          · exact h
        obtain ⟨g', o', cap', hv', hg', hc'⟩ : ∃ g o cap, (.slice bd b.length bc : Value) = .slice (some ⟨g, o, none⟩) b.length cap ∧ g < wr.heap.size ∧ ∀ (j : Nat) (p : ByteArray × ByteArray), b[j]? = some p → wr.cell? ⟨g, o + j * 2, none⟩ = some (.string p.1) ∧ wr.cell? ⟨g, o + j * 2 + 1, none⟩ = some (.string p.2) := by
          rcases HB.out.below HBL.out with ⟨h0, _⟩ | h
          · rw [h0] at hltB; simp at hltB
          · exact h
        simp only [Value.slice.injEq] at hv hv'
        obtain ⟨rfl, _, _⟩ := hv
        obtain ⟨rfl, _, _⟩ := hv'
        obtain ⟨p0, p1⟩ := hc k p hp
        obtain ⟨q0, q1⟩ := hc' k q hq
        have HP := Lib.hid hp
        have HQ := Lib.hid hq
        have hkI : (k : Int) < (n : Int) := by omega
        clear hc hc' hp hq hg hg'
        by_cases hpq : p = q
        · subst hpq
          have e1 : (p.1.toList == p.1.toList && p.2.toList == p.2.toList) = true := by rw [var_eq]; exact decide_eq_true rfl
          have hneq : ∀ X : World, (Go.binOp BinOp.neq 74 (.agg #[.string p.1, .string p.2]) (.agg #[.string p.1, .string p.2])).run Tryz.prog X = .ok (.bool false) X := fun X => by rw [NE, e1]; rfl
          clear NE e1
          go_wp2_with fail
          go_quiet (fail)
          go_wp2_with fail
          go_roundw
          case rel => exact ⟨k + 1, by go_num, by omega, fun j hj => by
            rcases Nat.lt_or_ge j k with h | h
            · exact HSM.out j h
            · obtain rfl : j = k := by omega
              rw [HP.out, HQ.out], below_drewN HBL.out _⟩
          case measure => simp [intOf]; omega
        · have e1 : (p.1.toList == q.1.toList && p.2.toList == q.2.toList) = false := by rw [var_eq]; exact decide_eq_false hpq
          have hneq : ∀ X : World, (Go.binOp BinOp.neq 74 (.agg #[.string p.1, .string p.2]) (.agg #[.string q.1, .string q.2])).run Tryz.prog X = .ok (.bool true) X := fun X => by rw [NE, e1]; rfl
          have hres := vl_ne HP.out HQ.out hpq
          have HRES := Lib.hid hres
          clear NE e1 hres
          go_wp2_with fail
          go_quiet (fail)
          go_wp2_with fail
          go_ret
          exact ⟨congrArg (fun x => Ending.returned (.bool x)) HRES.out.symm, below_drewN HBL.out _⟩
      · have hke : k = n := by omega
        subst hke
        have hres : decide (a = b) = true := decide_eq_true (List.ext_getElem? fun j => by
          rcases Nat.lt_or_ge j k with h | h
          · exact HSM.out j h
          · rw [List.getElem?_eq_none (by have := HN.out; omega), List.getElem?_eq_none (by have := HM.out; omega)])
        have HRES := Lib.hid hres
        clear hres
        go_wp2_with fail
        go_ret
        exact ⟨congrArg (fun x => Ending.returned (.bool x)) HRES.out.symm, HBL.out⟩
  · have hres : decide (a = b) = false := decide_eq_false fun e => hnm (by rw [HN.out, HM.out, e])
    rw [hres]
    have hnmI : decide ((n : Int) = (m : Int)) = false := decide_eq_false (by omega)
    have hnmI2 : decide (n = m) = false := decide_eq_false hnm
    go_enter Tryz.func10, Tryz.ntmps10
    go_wp2_with fail
    go_ret
    exact ⟨rfl, Below.refl _ _⟩
end Go.Proofs.YthpmkpnndbjflaaGreatDoor
