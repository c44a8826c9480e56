/- The walk of the statement on which codes have an error, and which of them a wrapped one is. -/
import Derived.Test.YtmihmaajfcdofaaDoorRFaTells
namespace Go.Proofs.YtmihmaajfcdofaaDoorR
open Go.RowKit Go.Extern.Stop Go.Stop Go.Extern

theorem of_some' (s : Nat → Addr) (w : World) (hs : Snt w s) (c : Int) (h1 : 1 ≤ c) (h2 : c ≤ 21) :
    Calls Tryd.prog 9 #[.int .i64 c] w fun e w' => e = .returned (bot (s c.toNat)) ∧ w = w' := by
  have := of_some s w hs c.toNat (by omega) (by omega)
  rw [show ((c.toNat : Nat) : Int) = c by omega] at this
  exact this
theorem is_yes' (l : List (Bool × Int)) (v : Value) (a : Addr) (s : Nat → Addr) (k : Nat) (o : Int) (w : World) (hs : Snt w s) (hr : Rt w s a k) (hc : Chn w l v (bot a)) (h2 : o ≤ 21) (ho : (k : Int) = o) :
    Calls Tryd.prog 11 #[v, .int .i64 o] w fun e w' => e = .returned (.bool true) ∧ Below w.heap.size w w' := by
  subst ho; exact is_yes l v a s k w hs hr hc (by omega)
theorem is_no' (l : List (Bool × Int)) (v : Value) (a : Addr) (s : Nat → Addr) (k : Nat) (o : Int) (w : World) (hs : Snt w s) (hr : Rt w s a k) (hc : Chn w l v (bot a)) (h1 : 1 ≤ o) (h2 : o ≤ 21) (ho : (k : Int) ≠ o) :
    Calls Tryd.prog 11 #[v, .int .i64 o] w fun e w' => e = .returned (.bool false) ∧ Below w.heap.size w w' := by
  have := is_no l v a s k w hs hr hc o.toNat (by omega) (by omega) (by omega)
  rw [show ((o.toNat : Nat) : Int) = o by omega] at this
  exact this
theorem is_nil' (s : Nat → Addr) (w : World) (hs : Snt w s) (o : Int) (h1 : 1 ≤ o) (h2 : o ≤ 21) :
    Calls Tryd.prog 11 #[.nilIface, .int .i64 o] w fun e w' => e = .returned (.bool false) ∧ Below w.heap.size w w' := by
  have := is_code_nil s w hs o.toNat (by omega) (by omega)
  rw [show ((o.toNat : Nat) : Int) = o by omega] at this
  exact this

set_option maxRecDepth 100000 in
set_option maxHeartbeats 4000000 in
theorem codes_A_lo (c o : Int) (h1 : 1 ≤ c) (h2 : c ≤ 21) (o1 : o < 1) (sl : Value) (len : Nat) (ws : Nat → Bool × Int) (w : World) (s : Nat → Addr) (hs : Snt w s) (hw : Wraps w sl len ws) :
    Calls Tryd.prog 4 #[.int .i64 c, .int .i64 o, sl] w fun e w' => e = .returned (.bool true) ∧ Below w.heap.size w w' := by
  have HS := Lib.hid hs
  have HO := Lib.hid (of_some' s w hs c h1 h2)
  have HU := Lib.hid (build_any c (by omega) (by omega) sl len ws w s hs hw)
  have hcp := codeNo_pos c
  clear hs hw
  have hi : 0 ≤ c := by omega
  unfold bot at *
  go_enter Tryd.func4, Tryd.ntmps4
  go_wp2_with fail
  refine HO.out.mono ?_
  rintro e w' ⟨rfl, rfl⟩
  go_wp2_with fail
  refine HU.out.mono ?_
  clear HU
  rintro e w0 ⟨v, a, rfl, hc, hr, hb0⟩
  obtain ⟨vt, vv, rfl⟩ := hc.held ⟨_, _, rfl⟩
  have HC := Lib.hid hc
  have HR := Lib.hid hr
  have HB0 := Lib.hid hb0
  clear hc hr hb0
  generalize (firstOf false (lst ws (min len 60))).getD 0 = p at *
  generalize (firstOf true (lst ws (min len 60))).getD 0 = l at *
  generalize codeNo c = k at *
  have hko : ((k : Int) == o) = false := beq_eq_false_iff_ne.2 (by omega)
  have HB1 : Hid (Below w0.heap.size w0 (w0.alloc (.cells #[.int .i64 k, .int .i64 p, .int .i64 l] 26))) := (Below.refl _ _).alloc (Nat.le_refl _) _
  go_wp2_with fail
  refine (is_code_out (.iface vt vv) _ o (by omega)).mono ?_
  rintro e w2 ⟨rfl, hb2⟩
  have HB2 := Lib.hid (Below.step HB0.out (Below.step HB1.out hb2))
  clear hb2
  go_wp2_with fail
  refine (is_code_out .nilIface _ o (by omega)).mono ?_
  rintro e w3 ⟨rfl, hb3⟩
  have HB3 := Lib.hid (Below.step HB2.out hb3)
  clear hb3
  go_wp2_with fail
  refine (awake_any s _ (HS.out.below HB3.out)).mono ?_
  rintro e w4 ⟨rfl, hb4⟩
  go_wp2
  go_ret
  exact ⟨rfl, Below.step HB3.out hb4⟩

set_option maxRecDepth 100000 in
set_option maxHeartbeats 4000000 in
theorem codes_A_hi (c o : Int) (h1 : 1 ≤ c) (h2 : c ≤ 21) (o1 : 21 < o) (o2 : (codeNo c : Int) ≠ o) (sl : Value) (len : Nat) (ws : Nat → Bool × Int) (w : World) (s : Nat → Addr) (hs : Snt w s) (hw : Wraps w sl len ws) :
    Calls Tryd.prog 4 #[.int .i64 c, .int .i64 o, sl] w fun e w' => e = .returned (.bool true) ∧ Below w.heap.size w w' := by
  have HS := Lib.hid hs
  have HO := Lib.hid (of_some' s w hs c h1 h2)
  have HU := Lib.hid (build_any c (by omega) (by omega) sl len ws w s hs hw)
  have hcp := codeNo_pos c
  clear hs hw
  have hi : 0 ≤ c := by omega
  unfold bot at *
  go_enter Tryd.func4, Tryd.ntmps4
  go_wp2_with fail
  refine HO.out.mono ?_
  rintro e w' ⟨rfl, rfl⟩
  go_wp2_with fail
  refine HU.out.mono ?_
  clear HU
  rintro e w0 ⟨v, a, rfl, hc, hr, hb0⟩
  obtain ⟨vt, vv, rfl⟩ := hc.held ⟨_, _, rfl⟩
  have HC := Lib.hid hc
  have HR := Lib.hid hr
  have HB0 := Lib.hid hb0
  clear hc hr hb0
  generalize (firstOf false (lst ws (min len 60))).getD 0 = p at *
  generalize (firstOf true (lst ws (min len 60))).getD 0 = l at *
  generalize codeNo c = k at *
  have hko : ((k : Int) == o) = false := beq_eq_false_iff_ne.2 (by omega)
  have HB1 : Hid (Below w0.heap.size w0 (w0.alloc (.cells #[.int .i64 k, .int .i64 p, .int .i64 l] 26))) := (Below.refl _ _).alloc (Nat.le_refl _) _
  go_wp2_with fail
  refine (is_code_out (.iface vt vv) _ o (by omega)).mono ?_
  rintro e w2 ⟨rfl, hb2⟩
  have HB2 := Lib.hid (Below.step HB0.out (Below.step HB1.out hb2))
  clear hb2
  go_wp2_with fail
  refine (is_code_out .nilIface _ o (by omega)).mono ?_
  rintro e w3 ⟨rfl, hb3⟩
  have HB3 := Lib.hid (Below.step HB2.out hb3)
  clear hb3
  go_wp2_with fail
  refine (awake_any s _ (HS.out.below HB3.out)).mono ?_
  rintro e w4 ⟨rfl, hb4⟩
  go_wp2
  go_ret
  exact ⟨rfl, Below.step HB3.out hb4⟩

set_option maxRecDepth 100000 in
set_option maxHeartbeats 4000000 in
theorem codes_A_eq (c o : Int) (h1 : 1 ≤ c) (h2 : c ≤ 21) (o1 : 1 ≤ o) (o2 : o ≤ 21) (o3 : (codeNo c : Int) = o) (sl : Value) (len : Nat) (ws : Nat → Bool × Int) (w : World) (s : Nat → Addr) (hs : Snt w s) (hw : Wraps w sl len ws) :
    Calls Tryd.prog 4 #[.int .i64 c, .int .i64 o, sl] w fun e w' => e = .returned (.bool true) ∧ Below w.heap.size w w' := by
  have HS := Lib.hid hs
  have HO := Lib.hid (of_some' s w hs c h1 h2)
  have HU := Lib.hid (build_any c (by omega) (by omega) sl len ws w s hs hw)
  have hcp := codeNo_pos c
  clear hs hw
  have hi : 0 ≤ c := by omega
  unfold bot at *
  go_enter Tryd.func4, Tryd.ntmps4
  go_wp2_with fail
  refine HO.out.mono ?_
  rintro e w' ⟨rfl, rfl⟩
  go_wp2_with fail
  refine HU.out.mono ?_
  clear HU
  rintro e w0 ⟨v, a, rfl, hc, hr, hb0⟩
  obtain ⟨vt, vv, rfl⟩ := hc.held ⟨_, _, rfl⟩
  have HC := Lib.hid hc
  have HR := Lib.hid hr
  have HB0 := Lib.hid hb0
  clear hc hr hb0
  generalize (firstOf false (lst ws (min len 60))).getD 0 = p at *
  generalize (firstOf true (lst ws (min len 60))).getD 0 = l at *
  generalize codeNo c = k at *
  have hko : ((k : Int) == o) = true := beq_iff_eq.2 (by omega)
  have HE := Lib.hid o3
  clear o3
  have HB1 : Hid (Below w0.heap.size w0 (w0.alloc (.cells #[.int .i64 k, .int .i64 p, .int .i64 l] 26))) := (Below.refl _ _).alloc (Nat.le_refl _) _
  go_wp2_with fail
  refine (is_yes' _ _ a s k o _ (HS.out.below (Below.step HB0.out HB1.out)) (HR.out.below HB1.out) (HC.out.below HB1.out) o2 HE.out).mono ?_
  rintro e w2 ⟨rfl, hb2⟩
  have HB2 := Lib.hid (Below.step HB0.out (Below.step HB1.out hb2))
  clear hb2
  go_wp2_with fail
  refine (is_nil' s _ (HS.out.below HB2.out) o o1 o2).mono ?_
  rintro e w3 ⟨rfl, hb3⟩
  have HB3 := Lib.hid (Below.step HB2.out hb3)
  clear hb3
  go_wp2_with fail
  refine (awake_any s _ (HS.out.below HB3.out)).mono ?_
  rintro e w4 ⟨rfl, hb4⟩
  go_wp2
  go_ret
  exact ⟨rfl, Below.step HB3.out hb4⟩

set_option maxRecDepth 100000 in
set_option maxHeartbeats 4000000 in
theorem codes_A_ne (c o : Int) (h1 : 1 ≤ c) (h2 : c ≤ 21) (o1 : 1 ≤ o) (o2 : o ≤ 21) (o3 : (codeNo c : Int) ≠ o) (sl : Value) (len : Nat) (ws : Nat → Bool × Int) (w : World) (s : Nat → Addr) (hs : Snt w s) (hw : Wraps w sl len ws) :
    Calls Tryd.prog 4 #[.int .i64 c, .int .i64 o, sl] w fun e w' => e = .returned (.bool true) ∧ Below w.heap.size w w' := by
  have HS := Lib.hid hs
  have HO := Lib.hid (of_some' s w hs c h1 h2)
  have HU := Lib.hid (build_any c (by omega) (by omega) sl len ws w s hs hw)
  have hcp := codeNo_pos c
  clear hs hw
  have hi : 0 ≤ c := by omega
  unfold bot at *
  go_enter Tryd.func4, Tryd.ntmps4
  go_wp2_with fail
  refine HO.out.mono ?_
  rintro e w' ⟨rfl, rfl⟩
  go_wp2_with fail
  refine HU.out.mono ?_
  clear HU
  rintro e w0 ⟨v, a, rfl, hc, hr, hb0⟩
  obtain ⟨vt, vv, rfl⟩ := hc.held ⟨_, _, rfl⟩
  have HC := Lib.hid hc
  have HR := Lib.hid hr
  have HB0 := Lib.hid hb0
  clear hc hr hb0
  generalize (firstOf false (lst ws (min len 60))).getD 0 = p at *
  generalize (firstOf true (lst ws (min len 60))).getD 0 = l at *
  generalize codeNo c = k at *
  have hko : ((k : Int) == o) = false := beq_eq_false_iff_ne.2 (by omega)
  have HB1 : Hid (Below w0.heap.size w0 (w0.alloc (.cells #[.int .i64 k, .int .i64 p, .int .i64 l] 26))) := (Below.refl _ _).alloc (Nat.le_refl _) _
  go_wp2_with fail
  refine (is_no' _ _ a s k o _ (HS.out.below (Below.step HB0.out HB1.out)) (HR.out.below HB1.out) (HC.out.below HB1.out) o1 o2 o3).mono ?_
  rintro e w2 ⟨rfl, hb2⟩
  have HB2 := Lib.hid (Below.step HB0.out (Below.step HB1.out hb2))
  clear hb2
  go_wp2_with fail
  refine (is_nil' s _ (HS.out.below HB2.out) o o1 o2).mono ?_
  rintro e w3 ⟨rfl, hb3⟩
  have HB3 := Lib.hid (Below.step HB2.out hb3)
  clear hb3
  go_wp2_with fail
  refine (awake_any s _ (HS.out.below HB3.out)).mono ?_
  rintro e w4 ⟨rfl, hb4⟩
  go_wp2
  go_ret
  exact ⟨rfl, Below.step HB3.out hb4⟩

set_option maxRecDepth 100000 in
set_option maxHeartbeats 4000000 in
theorem codes_L_lo (c o : Int) (h1 : c < 0) (o1 : o < 1) (sl : Value) (len : Nat) (ws : Nat → Bool × Int) (w : World) (s : Nat → Addr) (hs : Snt w s) (hw : Wraps w sl len ws) :
    Calls Tryd.prog 4 #[.int .i64 c, .int .i64 o, sl] w fun e w' => e = .returned (.bool true) ∧ Below w.heap.size w w' := by
  have HS := Lib.hid hs
  have HO := Lib.hid (of_none w c (by omega))
  have HU := Lib.hid (build_any c (by omega) (by omega) sl len ws w s hs hw)
  have hcp := codeNo_pos c
  clear hs hw
  unfold bot at *
  go_enter Tryd.func4, Tryd.ntmps4
  go_wp2_with fail
  refine HO.out.mono ?_
  rintro e w' ⟨rfl, rfl⟩
  go_wp2_with fail
  refine HU.out.mono ?_
  clear HU
  rintro e w0 ⟨v, a, rfl, hc, hr, hb0⟩
  obtain ⟨vt, vv, rfl⟩ := hc.held ⟨_, _, rfl⟩
  have HC := Lib.hid hc
  have HR := Lib.hid hr
  have HB0 := Lib.hid hb0
  clear hc hr hb0
  generalize (firstOf false (lst ws (min len 60))).getD 0 = p at *
  generalize (firstOf true (lst ws (min len 60))).getD 0 = l at *
  generalize codeNo c = k at *
  have hko : ((k : Int) == o) = false := beq_eq_false_iff_ne.2 (by omega)
  have HB1 : Hid (Below w0.heap.size w0 (w0.alloc (.cells #[.int .i64 k, .int .i64 p, .int .i64 l] 26))) := (Below.refl _ _).alloc (Nat.le_refl _) _
  go_wp2_with fail
  refine (is_code_out (.iface vt vv) _ o (by omega)).mono ?_
  rintro e w2 ⟨rfl, hb2⟩
  have HB2 := Lib.hid (Below.step HB0.out (Below.step HB1.out hb2))
  clear hb2
  go_wp2_with fail
  refine (is_code_out .nilIface _ o (by omega)).mono ?_
  rintro e w3 ⟨rfl, hb3⟩
  have HB3 := Lib.hid (Below.step HB2.out hb3)
  clear hb3
  go_wp2_with fail
  refine (awake_any s _ (HS.out.below HB3.out)).mono ?_
  rintro e w4 ⟨rfl, hb4⟩
  go_wp2
  go_ret
  exact ⟨rfl, Below.step HB3.out hb4⟩

set_option maxRecDepth 100000 in
set_option maxHeartbeats 4000000 in
theorem codes_L_hi (c o : Int) (h1 : c < 0) (o1 : 21 < o) (o2 : (codeNo c : Int) ≠ o) (sl : Value) (len : Nat) (ws : Nat → Bool × Int) (w : World) (s : Nat → Addr) (hs : Snt w s) (hw : Wraps w sl len ws) :
    Calls Tryd.prog 4 #[.int .i64 c, .int .i64 o, sl] w fun e w' => e = .returned (.bool true) ∧ Below w.heap.size w w' := by
  have HS := Lib.hid hs
  have HO := Lib.hid (of_none w c (by omega))
  have HU := Lib.hid (build_any c (by omega) (by omega) sl len ws w s hs hw)
  have hcp := codeNo_pos c
  clear hs hw
  unfold bot at *
  go_enter Tryd.func4, Tryd.ntmps4
  go_wp2_with fail
  refine HO.out.mono ?_
  rintro e w' ⟨rfl, rfl⟩
  go_wp2_with fail
  refine HU.out.mono ?_
  clear HU
  rintro e w0 ⟨v, a, rfl, hc, hr, hb0⟩
  obtain ⟨vt, vv, rfl⟩ := hc.held ⟨_, _, rfl⟩
  have HC := Lib.hid hc
  have HR := Lib.hid hr
  have HB0 := Lib.hid hb0
  clear hc hr hb0
  generalize (firstOf false (lst ws (min len 60))).getD 0 = p at *
  generalize (firstOf true (lst ws (min len 60))).getD 0 = l at *
  generalize codeNo c = k at *
  have hko : ((k : Int) == o) = false := beq_eq_false_iff_ne.2 (by omega)
  have HB1 : Hid (Below w0.heap.size w0 (w0.alloc (.cells #[.int .i64 k, .int .i64 p, .int .i64 l] 26))) := (Below.refl _ _).alloc (Nat.le_refl _) _
  go_wp2_with fail
  refine (is_code_out (.iface vt vv) _ o (by omega)).mono ?_
  rintro e w2 ⟨rfl, hb2⟩
  have HB2 := Lib.hid (Below.step HB0.out (Below.step HB1.out hb2))
  clear hb2
  go_wp2_with fail
  refine (is_code_out .nilIface _ o (by omega)).mono ?_
  rintro e w3 ⟨rfl, hb3⟩
  have HB3 := Lib.hid (Below.step HB2.out hb3)
  clear hb3
  go_wp2_with fail
  refine (awake_any s _ (HS.out.below HB3.out)).mono ?_
  rintro e w4 ⟨rfl, hb4⟩
  go_wp2
  go_ret
  exact ⟨rfl, Below.step HB3.out hb4⟩

set_option maxRecDepth 100000 in
set_option maxHeartbeats 4000000 in
theorem codes_L_same (c o : Int) (h1 : c < 0) (o1 : 21 < o) (o2 : (codeNo c : Int) = o) (sl : Value) (len : Nat) (ws : Nat → Bool × Int) (w : World) (s : Nat → Addr) (hs : Snt w s) (hw : Wraps w sl len ws) :
    Calls Tryd.prog 4 #[.int .i64 c, .int .i64 o, sl] w fun e w' => e = .returned (.bool true) ∧ Below w.heap.size w w' := by
  have HS := Lib.hid hs
  have HO := Lib.hid (of_none w c (by omega))
  have HU := Lib.hid (build_any c (by omega) (by omega) sl len ws w s hs hw)
  have hcp := codeNo_pos c
  clear hs hw
  unfold bot at *
  go_enter Tryd.func4, Tryd.ntmps4
  go_wp2_with fail
  refine HO.out.mono ?_
  rintro e w' ⟨rfl, rfl⟩
  go_wp2_with fail
  refine HU.out.mono ?_
  clear HU
  rintro e w0 ⟨v, a, rfl, hc, hr, hb0⟩
  obtain ⟨vt, vv, rfl⟩ := hc.held ⟨_, _, rfl⟩
  have HC := Lib.hid hc
  have HR := Lib.hid hr
  have HB0 := Lib.hid hb0
  clear hc hr hb0
  generalize (firstOf false (lst ws (min len 60))).getD 0 = p at *
  generalize (firstOf true (lst ws (min len 60))).getD 0 = l at *
  generalize codeNo c = k at *
  have hko : ((k : Int) == o) = true := beq_iff_eq.2 (by omega)
  have hd : decide (o ≤ 21) = false := decide_eq_false (by omega)
  have HE := Lib.hid o2
  clear o2
  have HB1 : Hid (Below w0.heap.size w0 (w0.alloc (.cells #[.int .i64 k, .int .i64 p, .int .i64 l] 26))) := (Below.refl _ _).alloc (Nat.le_refl _) _
  go_wp2_with fail
  refine (is_code_out (.iface vt vv) _ o (by omega)).mono ?_
  rintro e w2 ⟨rfl, hb2⟩
  have HB2 := Lib.hid (Below.step HB0.out (Below.step HB1.out hb2))
  clear hb2
  go_wp2_with fail
  refine (is_code_out .nilIface _ o (by omega)).mono ?_
  rintro e w3 ⟨rfl, hb3⟩
  have HB3 := Lib.hid (Below.step HB2.out hb3)
  clear hb3
  go_wp2_with fail
  refine (awake_any s _ (HS.out.below HB3.out)).mono ?_
  rintro e w4 ⟨rfl, hb4⟩
  go_wp2
  go_ret
  exact ⟨rfl, Below.step HB3.out hb4⟩

set_option maxRecDepth 100000 in
set_option maxHeartbeats 4000000 in
theorem codes_L_ne (c o : Int) (h1 : c < 0) (o1 : 1 ≤ o) (o2 : o ≤ 21) (o3 : (codeNo c : Int) ≠ o) (sl : Value) (len : Nat) (ws : Nat → Bool × Int) (w : World) (s : Nat → Addr) (hs : Snt w s) (hw : Wraps w sl len ws) :
    Calls Tryd.prog 4 #[.int .i64 c, .int .i64 o, sl] w fun e w' => e = .returned (.bool true) ∧ Below w.heap.size w w' := by
  have HS := Lib.hid hs
  have HO := Lib.hid (of_none w c (by omega))
  have HU := Lib.hid (build_any c (by omega) (by omega) sl len ws w s hs hw)
  have hcp := codeNo_pos c
  clear hs hw
  unfold bot at *
  go_enter Tryd.func4, Tryd.ntmps4
  go_wp2_with fail
  refine HO.out.mono ?_
  rintro e w' ⟨rfl, rfl⟩
  go_wp2_with fail
  refine HU.out.mono ?_
  clear HU
  rintro e w0 ⟨v, a, rfl, hc, hr, hb0⟩
  obtain ⟨vt, vv, rfl⟩ := hc.held ⟨_, _, rfl⟩
  have HC := Lib.hid hc
  have HR := Lib.hid hr
  have HB0 := Lib.hid hb0
  clear hc hr hb0
  generalize (firstOf false (lst ws (min len 60))).getD 0 = p at *
  generalize (firstOf true (lst ws (min len 60))).getD 0 = l at *
  generalize codeNo c = k at *
  have hko : ((k : Int) == o) = false := beq_eq_false_iff_ne.2 (by omega)
  have HB1 : Hid (Below w0.heap.size w0 (w0.alloc (.cells #[.int .i64 k, .int .i64 p, .int .i64 l] 26))) := (Below.refl _ _).alloc (Nat.le_refl _) _
  go_wp2_with fail
  refine (is_no' _ _ a s k o _ (HS.out.below (Below.step HB0.out HB1.out)) (HR.out.below HB1.out) (HC.out.below HB1.out) o1 o2 o3).mono ?_
  rintro e w2 ⟨rfl, hb2⟩
  have HB2 := Lib.hid (Below.step HB0.out (Below.step HB1.out hb2))
  clear hb2
  go_wp2_with fail
  refine (is_nil' s _ (HS.out.below HB2.out) o o1 o2).mono ?_
  rintro e w3 ⟨rfl, hb3⟩
  have HB3 := Lib.hid (Below.step HB2.out hb3)
  clear hb3
  go_wp2_with fail
  refine (awake_any s _ (HS.out.below HB3.out)).mono ?_
  rintro e w4 ⟨rfl, hb4⟩
  go_wp2
  go_ret
  exact ⟨rfl, Below.step HB3.out hb4⟩

set_option maxRecDepth 100000 in
set_option maxHeartbeats 4000000 in
theorem codes_G_lo (c o : Int) (h1 : 22 < c) (o1 : o < 1) (sl : Value) (len : Nat) (ws : Nat → Bool × Int) (w : World) (s : Nat → Addr) (hs : Snt w s) (hw : Wraps w sl len ws) :
    Calls Tryd.prog 4 #[.int .i64 c, .int .i64 o, sl] w fun e w' => e = .returned (.bool true) ∧ Below w.heap.size w w' := by
  have HS := Lib.hid hs
  have HO := Lib.hid (of_none w c (by omega))
  have HU := Lib.hid (build_any c (by omega) (by omega) sl len ws w s hs hw)
  have hcp := codeNo_pos c
  clear hs hw
  have hi : 1 ≤ c := by omega
  have hi2 : 21 < c := by omega
  unfold bot at *
  go_enter Tryd.func4, Tryd.ntmps4
  go_wp2_with fail
  refine HO.out.mono ?_
  rintro e w' ⟨rfl, rfl⟩
  go_wp2_with fail
  refine HU.out.mono ?_
  clear HU
  rintro e w0 ⟨v, a, rfl, hc, hr, hb0⟩
  obtain ⟨vt, vv, rfl⟩ := hc.held ⟨_, _, rfl⟩
  have HC := Lib.hid hc
  have HR := Lib.hid hr
  have HB0 := Lib.hid hb0
  clear hc hr hb0
  generalize (firstOf false (lst ws (min len 60))).getD 0 = p at *
  generalize (firstOf true (lst ws (min len 60))).getD 0 = l at *
  generalize codeNo c = k at *
  have hko : ((k : Int) == o) = false := beq_eq_false_iff_ne.2 (by omega)
  have HB1 : Hid (Below w0.heap.size w0 (w0.alloc (.cells #[.int .i64 k, .int .i64 p, .int .i64 l] 26))) := (Below.refl _ _).alloc (Nat.le_refl _) _
  go_wp2_with fail
  refine (is_code_out (.iface vt vv) _ o (by omega)).mono ?_
  rintro e w2 ⟨rfl, hb2⟩
  have HB2 := Lib.hid (Below.step HB0.out (Below.step HB1.out hb2))
  clear hb2
  go_wp2_with fail
  refine (is_code_out .nilIface _ o (by omega)).mono ?_
  rintro e w3 ⟨rfl, hb3⟩
  have HB3 := Lib.hid (Below.step HB2.out hb3)
  clear hb3
  go_wp2_with fail
  refine (awake_any s _ (HS.out.below HB3.out)).mono ?_
  rintro e w4 ⟨rfl, hb4⟩
  go_wp2
  go_ret
  exact ⟨rfl, Below.step HB3.out hb4⟩

set_option maxRecDepth 100000 in
set_option maxHeartbeats 4000000 in
theorem codes_G_hi (c o : Int) (h1 : 22 < c) (o1 : 21 < o) (o2 : (codeNo c : Int) ≠ o) (sl : Value) (len : Nat) (ws : Nat → Bool × Int) (w : World) (s : Nat → Addr) (hs : Snt w s) (hw : Wraps w sl len ws) :
    Calls Tryd.prog 4 #[.int .i64 c, .int .i64 o, sl] w fun e w' => e = .returned (.bool true) ∧ Below w.heap.size w w' := by
  have HS := Lib.hid hs
  have HO := Lib.hid (of_none w c (by omega))
  have HU := Lib.hid (build_any c (by omega) (by omega) sl len ws w s hs hw)
  have hcp := codeNo_pos c
  clear hs hw
  have hi : 1 ≤ c := by omega
  have hi2 : 21 < c := by omega
  unfold bot at *
  go_enter Tryd.func4, Tryd.ntmps4
  go_wp2_with fail
  refine HO.out.mono ?_
  rintro e w' ⟨rfl, rfl⟩
  go_wp2_with fail
  refine HU.out.mono ?_
  clear HU
  rintro e w0 ⟨v, a, rfl, hc, hr, hb0⟩
  obtain ⟨vt, vv, rfl⟩ := hc.held ⟨_, _, rfl⟩
  have HC := Lib.hid hc
  have HR := Lib.hid hr
  have HB0 := Lib.hid hb0
  clear hc hr hb0
  generalize (firstOf false (lst ws (min len 60))).getD 0 = p at *
  generalize (firstOf true (lst ws (min len 60))).getD 0 = l at *
  generalize codeNo c = k at *
  have hko : ((k : Int) == o) = false := beq_eq_false_iff_ne.2 (by omega)
  have HB1 : Hid (Below w0.heap.size w0 (w0.alloc (.cells #[.int .i64 k, .int .i64 p, .int .i64 l] 26))) := (Below.refl _ _).alloc (Nat.le_refl _) _
  go_wp2_with fail
  refine (is_code_out (.iface vt vv) _ o (by omega)).mono ?_
  rintro e w2 ⟨rfl, hb2⟩
  have HB2 := Lib.hid (Below.step HB0.out (Below.step HB1.out hb2))
  clear hb2
  go_wp2_with fail
  refine (is_code_out .nilIface _ o (by omega)).mono ?_
  rintro e w3 ⟨rfl, hb3⟩
  have HB3 := Lib.hid (Below.step HB2.out hb3)
  clear hb3
  go_wp2_with fail
  refine (awake_any s _ (HS.out.below HB3.out)).mono ?_
  rintro e w4 ⟨rfl, hb4⟩
  go_wp2
  go_ret
  exact ⟨rfl, Below.step HB3.out hb4⟩

set_option maxRecDepth 100000 in
set_option maxHeartbeats 4000000 in
theorem codes_G_same (c o : Int) (h1 : 22 < c) (o1 : 21 < o) (o2 : (codeNo c : Int) = o) (sl : Value) (len : Nat) (ws : Nat → Bool × Int) (w : World) (s : Nat → Addr) (hs : Snt w s) (hw : Wraps w sl len ws) :
    Calls Tryd.prog 4 #[.int .i64 c, .int .i64 o, sl] w fun e w' => e = .returned (.bool true) ∧ Below w.heap.size w w' := by
  have HS := Lib.hid hs
  have HO := Lib.hid (of_none w c (by omega))
  have HU := Lib.hid (build_any c (by omega) (by omega) sl len ws w s hs hw)
  have hcp := codeNo_pos c
  clear hs hw
  have hi : 1 ≤ c := by omega
  have hi2 : 21 < c := by omega
  unfold bot at *
  go_enter Tryd.func4, Tryd.ntmps4
  go_wp2_with fail
  refine HO.out.mono ?_
  rintro e w' ⟨rfl, rfl⟩
  go_wp2_with fail
  refine HU.out.mono ?_
  clear HU
  rintro e w0 ⟨v, a, rfl, hc, hr, hb0⟩
  obtain ⟨vt, vv, rfl⟩ := hc.held ⟨_, _, rfl⟩
  have HC := Lib.hid hc
  have HR := Lib.hid hr
  have HB0 := Lib.hid hb0
  clear hc hr hb0
  generalize (firstOf false (lst ws (min len 60))).getD 0 = p at *
  generalize (firstOf true (lst ws (min len 60))).getD 0 = l at *
  generalize codeNo c = k at *
  have hko : ((k : Int) == o) = true := beq_iff_eq.2 (by omega)
  have hd : decide (o ≤ 21) = false := decide_eq_false (by omega)
  have HE := Lib.hid o2
  clear o2
  have HB1 : Hid (Below w0.heap.size w0 (w0.alloc (.cells #[.int .i64 k, .int .i64 p, .int .i64 l] 26))) := (Below.refl _ _).alloc (Nat.le_refl _) _
  go_wp2_with fail
  refine (is_code_out (.iface vt vv) _ o (by omega)).mono ?_
  rintro e w2 ⟨rfl, hb2⟩
  have HB2 := Lib.hid (Below.step HB0.out (Below.step HB1.out hb2))
  clear hb2
  go_wp2_with fail
  refine (is_code_out .nilIface _ o (by omega)).mono ?_
  rintro e w3 ⟨rfl, hb3⟩
  have HB3 := Lib.hid (Below.step HB2.out hb3)
  clear hb3
  go_wp2_with fail
  refine (awake_any s _ (HS.out.below HB3.out)).mono ?_
  rintro e w4 ⟨rfl, hb4⟩
  go_wp2
  go_ret
  exact ⟨rfl, Below.step HB3.out hb4⟩

set_option maxRecDepth 100000 in
set_option maxHeartbeats 4000000 in
theorem codes_G_ne (c o : Int) (h1 : 22 < c) (o1 : 1 ≤ o) (o2 : o ≤ 21) (o3 : (codeNo c : Int) ≠ o) (sl : Value) (len : Nat) (ws : Nat → Bool × Int) (w : World) (s : Nat → Addr) (hs : Snt w s) (hw : Wraps w sl len ws) :
    Calls Tryd.prog 4 #[.int .i64 c, .int .i64 o, sl] w fun e w' => e = .returned (.bool true) ∧ Below w.heap.size w w' := by
  have HS := Lib.hid hs
  have HO := Lib.hid (of_none w c (by omega))
  have HU := Lib.hid (build_any c (by omega) (by omega) sl len ws w s hs hw)
  have hcp := codeNo_pos c
  clear hs hw
  have hi : 1 ≤ c := by omega
  have hi2 : 21 < c := by omega
  unfold bot at *
  go_enter Tryd.func4, Tryd.ntmps4
  go_wp2_with fail
  refine HO.out.mono ?_
  rintro e w' ⟨rfl, rfl⟩
  go_wp2_with fail
  refine HU.out.mono ?_
  clear HU
  rintro e w0 ⟨v, a, rfl, hc, hr, hb0⟩
  obtain ⟨vt, vv, rfl⟩ := hc.held ⟨_, _, rfl⟩
  have HC := Lib.hid hc
  have HR := Lib.hid hr
  have HB0 := Lib.hid hb0
  clear hc hr hb0
  generalize (firstOf false (lst ws (min len 60))).getD 0 = p at *
  generalize (firstOf true (lst ws (min len 60))).getD 0 = l at *
  generalize codeNo c = k at *
  have hko : ((k : Int) == o) = false := beq_eq_false_iff_ne.2 (by omega)
  have HB1 : Hid (Below w0.heap.size w0 (w0.alloc (.cells #[.int .i64 k, .int .i64 p, .int .i64 l] 26))) := (Below.refl _ _).alloc (Nat.le_refl _) _
  go_wp2_with fail
  refine (is_no' _ _ a s k o _ (HS.out.below (Below.step HB0.out HB1.out)) (HR.out.below HB1.out) (HC.out.below HB1.out) o1 o2 o3).mono ?_
  rintro e w2 ⟨rfl, hb2⟩
  have HB2 := Lib.hid (Below.step HB0.out (Below.step HB1.out hb2))
  clear hb2
  go_wp2_with fail
  refine (is_nil' s _ (HS.out.below HB2.out) o o1 o2).mono ?_
  rintro e w3 ⟨rfl, hb3⟩
  have HB3 := Lib.hid (Below.step HB2.out hb3)
  clear hb3
  go_wp2_with fail
  refine (awake_any s _ (HS.out.below HB3.out)).mono ?_
  rintro e w4 ⟨rfl, hb4⟩
  go_wp2
  go_ret
  exact ⟨rfl, Below.step HB3.out hb4⟩

set_option maxRecDepth 100000 in
set_option maxHeartbeats 4000000 in
theorem codes_zero_lo (o : Int) (o1 : o < 1) (sl : Value) (w : World) (s : Nat → Addr) (hs : Snt w s) :
    Calls Tryd.prog 4 #[.int .i64 0, .int .i64 o, sl] w fun e w' => e = .returned (.bool true) ∧ Below w.heap.size w w' := by
  have HS := Lib.hid hs
  have HO := Lib.hid (of_none w 0 (by decide))
  have HU := Lib.hid (build_zero sl w)
  clear hs
  go_enter Tryd.func4, Tryd.ntmps4
  go_wp2_with fail
  refine HO.out.mono ?_
  rintro e w' ⟨rfl, rfl⟩
  go_wp2_with fail
  refine HU.out.mono ?_
  clear HU
  rintro e w0 ⟨rfl, hb0⟩
  have HB1 : Hid (Below w.heap.size w (w0.alloc (.cells #[.int .i64 0, .int .i64 0, .int .i64 0] 26))) := Below.step hb0 ((Below.refl _ _).alloc (Nat.le_refl _) _)
  clear hb0
  go_wp2_with fail
  refine (is_code_out .nilIface _ o (by omega)).mono ?_
  rintro e w2 ⟨rfl, hb2⟩
  have HB2 := Lib.hid (Below.step HB1.out hb2)
  clear hb2
  go_wp2_with fail
  refine (is_code_out .nilIface _ o (by omega)).mono ?_
  rintro e w3 ⟨rfl, hb3⟩
  have HB3 := Lib.hid (Below.step HB2.out hb3)
  clear hb3
  go_wp2_with fail
  refine (awake_any s _ (HS.out.below HB3.out)).mono ?_
  rintro e w4 ⟨rfl, hb4⟩
  go_wp2
  go_ret
  exact ⟨rfl, Below.step HB3.out hb4⟩

set_option maxRecDepth 100000 in
set_option maxHeartbeats 4000000 in
theorem codes_zero_hi (o : Int) (o1 : 21 < o) (sl : Value) (w : World) (s : Nat → Addr) (hs : Snt w s) :
    Calls Tryd.prog 4 #[.int .i64 0, .int .i64 o, sl] w fun e w' => e = .returned (.bool true) ∧ Below w.heap.size w w' := by
  have HS := Lib.hid hs
  have HO := Lib.hid (of_none w 0 (by decide))
  have HU := Lib.hid (build_zero sl w)
  clear hs
  go_enter Tryd.func4, Tryd.ntmps4
  go_wp2_with fail
  refine HO.out.mono ?_
  rintro e w' ⟨rfl, rfl⟩
  go_wp2_with fail
  refine HU.out.mono ?_
  clear HU
  rintro e w0 ⟨rfl, hb0⟩
  have HB1 : Hid (Below w.heap.size w (w0.alloc (.cells #[.int .i64 0, .int .i64 0, .int .i64 0] 26))) := Below.step hb0 ((Below.refl _ _).alloc (Nat.le_refl _) _)
  clear hb0
  go_wp2_with fail
  refine (is_code_out .nilIface _ o (by omega)).mono ?_
  rintro e w2 ⟨rfl, hb2⟩
  have HB2 := Lib.hid (Below.step HB1.out hb2)
  clear hb2
  go_wp2_with fail
  refine (is_code_out .nilIface _ o (by omega)).mono ?_
  rintro e w3 ⟨rfl, hb3⟩
  have HB3 := Lib.hid (Below.step HB2.out hb3)
  clear hb3
  go_wp2_with fail
  refine (awake_any s _ (HS.out.below HB3.out)).mono ?_
  rintro e w4 ⟨rfl, hb4⟩
  go_wp2
  go_ret
  exact ⟨rfl, Below.step HB3.out hb4⟩

set_option maxRecDepth 100000 in
set_option maxHeartbeats 4000000 in
theorem codes_zero_ne (o : Int) (o1 : 1 ≤ o) (o2 : o ≤ 21) (sl : Value) (w : World) (s : Nat → Addr) (hs : Snt w s) :
    Calls Tryd.prog 4 #[.int .i64 0, .int .i64 o, sl] w fun e w' => e = .returned (.bool true) ∧ Below w.heap.size w w' := by
  have HS := Lib.hid hs
  have HO := Lib.hid (of_none w 0 (by decide))
  have HU := Lib.hid (build_zero sl w)
  clear hs
  go_enter Tryd.func4, Tryd.ntmps4
  go_wp2_with fail
  refine HO.out.mono ?_
  rintro e w' ⟨rfl, rfl⟩
  go_wp2_with fail
  refine HU.out.mono ?_
  clear HU
  rintro e w0 ⟨rfl, hb0⟩
  have HB1 : Hid (Below w.heap.size w (w0.alloc (.cells #[.int .i64 0, .int .i64 0, .int .i64 0] 26))) := Below.step hb0 ((Below.refl _ _).alloc (Nat.le_refl _) _)
  clear hb0
  go_wp2_with fail
  refine (is_nil' s _ (HS.out.below HB1.out) o o1 o2).mono ?_
  rintro e w2 ⟨rfl, hb2⟩
  have HB2 := Lib.hid (Below.step HB1.out hb2)
  clear hb2
  go_wp2_with fail
  refine (is_nil' s _ (HS.out.below HB2.out) o o1 o2).mono ?_
  rintro e w3 ⟨rfl, hb3⟩
  have HB3 := Lib.hid (Below.step HB2.out hb3)
  clear hb3
  go_wp2_with fail
  refine (awake_any s _ (HS.out.below HB3.out)).mono ?_
  rintro e w4 ⟨rfl, hb4⟩
  go_wp2
  go_ret
  exact ⟨rfl, Below.step HB3.out hb4⟩

set_option maxRecDepth 100000 in
set_option maxHeartbeats 4000000 in
theorem codes_other_lo (o : Int) (o1 : o < 1) (sl : Value) (w : World) (s : Nat → Addr) (hs : Snt w s) :
    Calls Tryd.prog 4 #[.int .i64 22, .int .i64 o, sl] w fun e w' => e = .returned (.bool true) ∧ Below w.heap.size w w' := by
  have HS := Lib.hid hs
  have HO := Lib.hid (of_none w 22 (by decide))
  have HU := Lib.hid (build_other sl w)
  clear hs
  go_enter Tryd.func4, Tryd.ntmps4
  go_wp2_with fail
  refine HO.out.mono ?_
  rintro e w' ⟨rfl, rfl⟩
  go_wp2_with fail
  refine HU.out.mono ?_
  clear HU
  rintro e w0 ⟨rfl, hb0⟩
  have HB1 : Hid (Below w.heap.size w (w0.alloc (.cells #[.int .i64 0, .int .i64 0, .int .i64 0] 26))) := Below.step hb0 ((Below.refl _ _).alloc (Nat.le_refl _) _)
  clear hb0
  go_wp2_with fail
  refine (is_code_out .nilIface _ o (by omega)).mono ?_
  rintro e w2 ⟨rfl, hb2⟩
  have HB2 := Lib.hid (Below.step HB1.out hb2)
  clear hb2
  go_wp2_with fail
  refine (is_code_out .nilIface _ o (by omega)).mono ?_
  rintro e w3 ⟨rfl, hb3⟩
  have HB3 := Lib.hid (Below.step HB2.out hb3)
  clear hb3
  go_wp2_with fail
  refine (awake_any s _ (HS.out.below HB3.out)).mono ?_
  rintro e w4 ⟨rfl, hb4⟩
  go_wp2
  go_ret
  exact ⟨rfl, Below.step HB3.out hb4⟩

set_option maxRecDepth 100000 in
set_option maxHeartbeats 4000000 in
theorem codes_other_hi (o : Int) (o1 : 21 < o) (sl : Value) (w : World) (s : Nat → Addr) (hs : Snt w s) :
    Calls Tryd.prog 4 #[.int .i64 22, .int .i64 o, sl] w fun e w' => e = .returned (.bool true) ∧ Below w.heap.size w w' := by
  have HS := Lib.hid hs
  have HO := Lib.hid (of_none w 22 (by decide))
  have HU := Lib.hid (build_other sl w)
  clear hs
  go_enter Tryd.func4, Tryd.ntmps4
  go_wp2_with fail
  refine HO.out.mono ?_
  rintro e w' ⟨rfl, rfl⟩
  go_wp2_with fail
  refine HU.out.mono ?_
  clear HU
  rintro e w0 ⟨rfl, hb0⟩
  have HB1 : Hid (Below w.heap.size w (w0.alloc (.cells #[.int .i64 0, .int .i64 0, .int .i64 0] 26))) := Below.step hb0 ((Below.refl _ _).alloc (Nat.le_refl _) _)
  clear hb0
  go_wp2_with fail
  refine (is_code_out .nilIface _ o (by omega)).mono ?_
  rintro e w2 ⟨rfl, hb2⟩
  have HB2 := Lib.hid (Below.step HB1.out hb2)
  clear hb2
  go_wp2_with fail
  refine (is_code_out .nilIface _ o (by omega)).mono ?_
  rintro e w3 ⟨rfl, hb3⟩
  have HB3 := Lib.hid (Below.step HB2.out hb3)
  clear hb3
  go_wp2_with fail
  refine (awake_any s _ (HS.out.below HB3.out)).mono ?_
  rintro e w4 ⟨rfl, hb4⟩
  go_wp2
  go_ret
  exact ⟨rfl, Below.step HB3.out hb4⟩

set_option maxRecDepth 100000 in
set_option maxHeartbeats 4000000 in
theorem codes_other_ne (o : Int) (o1 : 1 ≤ o) (o2 : o ≤ 21) (sl : Value) (w : World) (s : Nat → Addr) (hs : Snt w s) :
    Calls Tryd.prog 4 #[.int .i64 22, .int .i64 o, sl] w fun e w' => e = .returned (.bool true) ∧ Below w.heap.size w w' := by
  have HS := Lib.hid hs
  have HO := Lib.hid (of_none w 22 (by decide))
  have HU := Lib.hid (build_other sl w)
  clear hs
  go_enter Tryd.func4, Tryd.ntmps4
  go_wp2_with fail
  refine HO.out.mono ?_
  rintro e w' ⟨rfl, rfl⟩
  go_wp2_with fail
  refine HU.out.mono ?_
  clear HU
  rintro e w0 ⟨rfl, hb0⟩
  have HB1 : Hid (Below w.heap.size w (w0.alloc (.cells #[.int .i64 0, .int .i64 0, .int .i64 0] 26))) := Below.step hb0 ((Below.refl _ _).alloc (Nat.le_refl _) _)
  clear hb0
  go_wp2_with fail
  refine (is_nil' s _ (HS.out.below HB1.out) o o1 o2).mono ?_
  rintro e w2 ⟨rfl, hb2⟩
  have HB2 := Lib.hid (Below.step HB1.out hb2)
  clear hb2
  go_wp2_with fail
  refine (is_nil' s _ (HS.out.below HB2.out) o o1 o2).mono ?_
  rintro e w3 ⟨rfl, hb3⟩
  have HB3 := Lib.hid (Below.step HB2.out hb3)
  clear hb3
  go_wp2_with fail
  refine (awake_any s _ (HS.out.below HB3.out)).mono ?_
  rintro e w4 ⟨rfl, hb4⟩
  go_wp2
  go_ret
  exact ⟨rfl, Below.step HB3.out hb4⟩

theorem faultCodes_open {H : Type} {enc : TypeId × Value → H} {d0 d1 d2 : DataW H} {p0 p1 p2 : List MemPlace} {q : Prop} (W : World) (base : Nat) (v0 v1 v2 : Value)
    (h0 : DataW.Trod enc Tryd.prog W 0 (fun _ => true) true 3 v0 d0 p0) (h1 : DataW.Trod enc Tryd.prog W 0 (fun _ => true) true 3 v1 d1 p1) (h2 : DataW.Trod enc Tryd.prog W 0 (fun _ => true) true 22 v2 d2 p2)
    (k0 : Value.okWide Tryd.prog W .any base 3 v0) (k1 : Value.okWide Tryd.prog W .any base 3 v1) (k2 : Value.okWide Tryd.prog W .any base 22 v2) (_ : q) (hL : laidMetH Tryd.prog Rows.faultCodesRow.laid W) :
    Calls Tryd.prog 4 #[v0, v1, v2] W fun e W' => e = .returned (.bool true) ∧ Below W.heap.size W W' := by
  obtain ⟨c, rfl, rfl, rfl, wx⟩ := ChangeShapes.open_int Tryd.underlying3 k0 h0
  obtain ⟨o, rfl, rfl, rfl, wy⟩ := ChangeShapes.open_int Tryd.underlying3 k1 h1
  obtain ⟨len, ws, hw⟩ := wraps_of k2 h2
  obtain ⟨s, hs⟩ := snt_of_laid rfl rfl hL
  by_cases c0 : c = 0
  · subst c0
    by_cases l1 : o < 1
    · exact codes_zero_lo o l1 v2 W s hs
    by_cases l2 : 21 < o
    · exact codes_zero_hi o l2 v2 W s hs
    exact codes_zero_ne o (by omega) (by omega) v2 W s hs
  by_cases c22 : c = 22
  · subst c22
    by_cases l1 : o < 1
    · exact codes_other_lo o l1 v2 W s hs
    by_cases l2 : 21 < o
    · exact codes_other_hi o l2 v2 W s hs
    exact codes_other_ne o (by omega) (by omega) v2 W s hs
  by_cases cA : 1 ≤ c ∧ c ≤ 21
  · have e : ((codeNo c : Nat) : Int) = c := by unfold codeNo; rw [if_pos cA]; omega
    by_cases l1 : o < 1
    · exact codes_A_lo c o cA.1 cA.2 l1 v2 len ws W s hs hw
    by_cases l2 : 21 < o
    · exact codes_A_hi c o cA.1 cA.2 l2 (by omega) v2 len ws W s hs hw
    by_cases l3 : (codeNo c : Int) = o
    · exact codes_A_eq c o cA.1 cA.2 (by omega) (by omega) l3 v2 len ws W s hs hw
    exact codes_A_ne c o cA.1 cA.2 (by omega) (by omega) l3 v2 len ws W s hs hw
  · have e : codeNo c = 22 := by unfold codeNo; rw [if_neg cA]
    rcases (by omega : c < 0 ∨ 22 < c) with cl | cl
    · by_cases l1 : o < 1
      · exact codes_L_lo c o cl l1 v2 len ws W s hs hw
      by_cases l2 : 21 < o
      · by_cases l3 : (codeNo c : Int) = o
        · exact codes_L_same c o cl l2 l3 v2 len ws W s hs hw
        exact codes_L_hi c o cl l2 l3 v2 len ws W s hs hw
      exact codes_L_ne c o cl (by omega) (by omega) (by omega) v2 len ws W s hs hw
    · by_cases l1 : o < 1
      · exact codes_G_lo c o cl l1 v2 len ws W s hs hw
      by_cases l2 : 21 < o
      · by_cases l3 : (codeNo c : Int) = o
        · exact codes_G_same c o cl l2 l3 v2 len ws W s hs hw
        exact codes_G_hi c o cl l2 l3 v2 len ws W s hs hw
      exact codes_G_ne c o cl (by omega) (by omega) (by omega) v2 len ws W s hs hw
end Go.Proofs.YtmihmaajfcdofaaDoorR
