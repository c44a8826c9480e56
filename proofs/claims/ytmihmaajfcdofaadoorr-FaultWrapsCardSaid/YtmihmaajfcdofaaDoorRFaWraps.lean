/- The walk of the statement that what wraps says what is wrapped. -/
import Derived.Test.YtmihmaajfcdofaaDoorRFaCodes
namespace Go.Proofs.YtmihmaajfcdofaaDoorR
open Go.RowKit Go.Extern.Stop Go.Stop Go.Extern

def Kq (w : World) (F : Nat) (x : Value) (w' : World) : Prop := Below w.heap.size w w' ∧ w'.cell? ⟨F, 0, none⟩ = some x ∧ F < w'.heap.size
theorem Kq.next {w : World} {F : Nat} {x : Value} {w1 w2 : World} (h : Kq w F x w1) (hb : Below w1.heap.size w1 w2) : Kq w F x w2 :=
  ⟨Below.step h.1 hb, by rw [hb.cell h.2.2]; exact h.2.1, Nat.lt_of_lt_of_le h.2.2 hb.size⟩
theorem Kq.drew {w : World} {F : Nat} {x : Value} {w1 : World} (h : Kq w F x w1) : Kq w F x w1.drew := h.next (Below.refl _ _).drew

theorem wrapC_At (L : List (Bool × Int)) (vt : TypeId) (vv : Value) (a : Addr) (n : Int) (w : World) (hc : Chn w L (.iface vt vv) (bot a)) :
    Calls Tryd.prog 12 #[.iface vt vv, .int .i64 n] w fun e w' => ∃ ut uv, e = .returned (.iface ut uv) ∧ Chn w' ((false, n) :: L) (.iface ut uv) (bot a) ∧ Below w.heap.size w w' := by
  refine (wrap_At vt vv n w).mono ?_
  rintro e w' ⟨rfl, rfl⟩
  exact ⟨_, _, rfl, hc.wrapAt n, (Below.refl _ _).alloc (Nat.le_refl _) _⟩
theorem wrapC_In (L : List (Bool × Int)) (vt : TypeId) (vv : Value) (a : Addr) (n : Int) (w : World) (hc : Chn w L (.iface vt vv) (bot a)) :
    Calls Tryd.prog 13 #[.iface vt vv, .int .i64 n] w fun e w' => ∃ ut uv, e = .returned (.iface ut uv) ∧ Chn w' ((true, n) :: L) (.iface ut uv) (bot a) ∧ Below w.heap.size w w' := by
  refine (wrap_In vt vv n w).mono ?_
  rintro e w' ⟨rfl, rfl⟩
  exact ⟨_, _, rfl, hc.wrapIn n, (Below.refl _ _).alloc (Nat.le_refl _) _⟩

set_option maxRecDepth 100000 in
set_option maxHeartbeats 4000000 in
theorem wraps_zero (pos lang : Int) (sl : Value) (w : World) (s : Nat → Addr) (hs : Snt w s) :
    Calls Tryd.prog 5 #[.int .i64 0, sl, .int .i64 pos, .int .i64 lang] w fun e w' => e = .returned (.bool true) ∧ Below w.heap.size w w' := by
  have HS := Lib.hid hs
  have HU := Lib.hid (build_zero sl w)
  clear hs
  go_enter Tryd.func5, Tryd.ntmps5
  go_wp2_with fail
  refine HU.out.mono ?_
  clear HU
  rintro e w0 ⟨rfl, hb0⟩
  have HB1 : Hid (Below w.heap.size w (w0.alloc (.cells #[.int .i64 0, .int .i64 0, .int .i64 0] 26))) := Below.step hb0 ((Below.refl _ _).alloc (Nat.le_refl _) _)
  clear hb0
  go_wp2_with fail
  refine (wrap_nil_At pos _).mono ?_
  rintro e w2 ⟨rfl, rfl⟩
  go_wp2_with fail
  refine (wrap_nil_In lang _).mono ?_
  rintro e w2 ⟨rfl, rfl⟩
  go_wp2_with fail
  refine (awake_any s _ (HS.out.below HB1.out)).mono ?_
  rintro e w4 ⟨rfl, hb4⟩
  go_wp2
  go_ret
  exact ⟨rfl, Below.step HB1.out hb4⟩
set_option maxRecDepth 100000 in
set_option maxHeartbeats 4000000 in
theorem wraps_other (pos lang : Int) (sl : Value) (w : World) (s : Nat → Addr) (hs : Snt w s) :
    Calls Tryd.prog 5 #[.int .i64 22, sl, .int .i64 pos, .int .i64 lang] w fun e w' => e = .returned (.bool true) ∧ Below w.heap.size w w' := by
  have HS := Lib.hid hs
  have HU := Lib.hid (build_other sl w)
  clear hs
  go_enter Tryd.func5, Tryd.ntmps5
  go_wp2_with fail
  refine HU.out.mono ?_
  clear HU
  rintro e w0 ⟨rfl, hb0⟩
  have HB1 : Hid (Below w.heap.size w (w0.alloc (.cells #[.int .i64 0, .int .i64 0, .int .i64 0] 26))) := Below.step hb0 ((Below.refl _ _).alloc (Nat.le_refl _) _)
  clear hb0
  go_wp2_with fail
  refine (wrap_nil_At pos _).mono ?_
  rintro e w2 ⟨rfl, rfl⟩
  go_wp2_with fail
  refine (wrap_nil_In lang _).mono ?_
  rintro e w2 ⟨rfl, rfl⟩
  go_wp2_with fail
  refine (awake_any s _ (HS.out.below HB1.out)).mono ?_
  rintro e w4 ⟨rfl, hb4⟩
  go_wp2
  go_ret
  exact ⟨rfl, Below.step HB1.out hb4⟩

set_option maxRecDepth 100000 in
set_option maxHeartbeats 4000000 in
theorem wraps_some (c : Int) (h0 : c ≠ 0) (h22 : c ≠ 22) (pos lang : Int) (sl : Value) (len : Nat) (ws : Nat → Bool × Int) (w : World) (s : Nat → Addr) (hs : Snt w s) (hw : Wraps w sl len ws) :
    Calls Tryd.prog 5 #[.int .i64 c, sl, .int .i64 pos, .int .i64 lang] w fun e w' => e = .returned (.bool true) ∧ Below w.heap.size w w' := by
  have HS := Lib.hid hs
  have HU := Lib.hid (build_any c h0 h22 sl len ws w s hs hw)
  have hcp := codeNo_pos c
  clear hs hw
  go_enter Tryd.func5, Tryd.ntmps5
  go_wp2_with fail
  refine HU.out.mono ?_
  clear HU
  rintro e w0 ⟨v, a, rfl, hc, hr, hb0⟩
  obtain ⟨vt, vv, rfl⟩ := hc.held ⟨_, _, rfl⟩
  have HC := Lib.hid hc
  have HR := Lib.hid hr
  have HB0 := Lib.hid hb0
  clear hc hr hb0
  generalize codeNo c = k at *
  generalize lst ws (min len 60) = L at *
  have HT : Hid (∀ (l : List (Bool × Int)) (u : Value) (w1 : World), Below w0.heap.size w0 w1 → Chn w1 l u (bot a) → Calls Tryd.prog 8 #[u] w1 fun e w' => e = .returned (.agg #[.int .i64 k, .int .i64 ((firstOf false l).getD 0), .int .i64 ((firstOf true l).getD 0)]) ∧ Below w1.heap.size w1 w') :=
    fun l u w1 hb1 hc1 => tell_any l u a s k w1 (HS.out.below (Below.step HB0.out hb1)) (HR.out.below hb1) hc1
  have HB1 : Hid (Below w0.heap.size w0 (w0.alloc (.cells #[.int .i64 k, .int .i64 ((firstOf false L).getD 0), .int .i64 ((firstOf true L).getD 0)] 26))) := (Below.refl _ _).alloc (Nat.le_refl _) _
  clear h0 h22
  go_wp2_with fail
  refine (HT.out L _ _ HB1.out (HC.out.below HB1.out)).mono ?_
  rintro e w1 ⟨rfl, hb1⟩
  have HB2 := Lib.hid (Below.step HB1.out hb1)
  clear hb1
  generalize hp : (firstOf false L).getD 0 = p at *
  generalize hl : (firstOf true L).getD 0 = l at *
  have HP := Lib.hid hp
  have HL := Lib.hid hl
  clear hp hl
  go_wp2_with fail
  refine (wrap_At _ _ pos _).mono ?_
  rintro e wx ⟨rfl, rfl⟩
  have HBx1 : Hid (Below w0.heap.size w0 ((w1.alloc (.cells #[.int .i64 k, .int .i64 p, .int .i64 l] 26)).alloc (.cells #[.iface vt vv, .int .i64 pos] 46))) := Below.step HB2.out (((Below.refl _ _).alloc (Nat.le_refl _) _).alloc (by simp) _)
  have HCx1 : Hid (Chn ((w1.alloc (.cells #[.int .i64 k, .int .i64 p, .int .i64 l] 26)).alloc (.cells #[.iface vt vv, .int .i64 pos] 46)) ((false, pos) :: L) (.iface 42 (.pointer (some ⟨w1.heap.size + 1, 0, none⟩))) (bot a)) := by
    refine Lib.hid ?_
    simpa using (((HC.out.below HB2.out).alloc (.cells #[.int .i64 k, .int .i64 p, .int .i64 l] 26)).wrapAt pos)
  have HTx1 : Hid (Calls Tryd.prog 8 #[(.iface 42 (.pointer (some ⟨w1.heap.size + 1, 0, none⟩)))] ((w1.alloc (.cells #[.int .i64 k, .int .i64 p, .int .i64 l] 26)).alloc (.cells #[.iface vt vv, .int .i64 pos] 46)) fun e w' => e = .returned (.agg #[.int .i64 k, .int .i64 pos, .int .i64 l]) ∧ Below ((w1.alloc (.cells #[.int .i64 k, .int .i64 p, .int .i64 l] 26)).alloc (.cells #[.iface vt vv, .int .i64 pos] 46)).heap.size ((w1.alloc (.cells #[.int .i64 k, .int .i64 p, .int .i64 l] 26)).alloc (.cells #[.iface vt vv, .int .i64 pos] 46)) w') := by
    have := HT.out _ _ _ HBx1.out HCx1.out
    refine Lib.hid ?_
    simpa [firstOf, HP.out, HL.out] using this
  go_wp2_with fail
  refine HTx1.out.mono ?_
  rintro e w3 ⟨rfl, hbw3⟩
  have Hw3 := Lib.hid (Below.step HBx1.out hbw3)
  have B11 := Lib.hid (kept_block (block_alloc (new_block w1 (.cells #[.int .i64 k, .int .i64 p, .int .i64 l] 26) (Below.refl _ _)) _) hbw3)
  clear hbw3
  go_wp2_with fail
  refine (wrap_In _ _ lang _).mono ?_
  rintro e wx ⟨rfl, rfl⟩
  have HBx2 : Hid (Below w0.heap.size w0 (w3.alloc (.cells #[.iface vt vv, .int .i64 lang] 51))) := Below.step Hw3.out ((Below.refl _ _).alloc (Nat.le_refl _) _)
  have HCx2 : Hid (Chn (w3.alloc (.cells #[.iface vt vv, .int .i64 lang] 51)) ((true, lang) :: L) (.iface 47 (.pointer (some ⟨w3.heap.size, 0, none⟩))) (bot a)) := by
    refine Lib.hid ?_
    exact (HC.out.below Hw3.out).wrapIn lang
  have HTx2 : Hid (Calls Tryd.prog 8 #[(.iface 47 (.pointer (some ⟨w3.heap.size, 0, none⟩)))] (w3.alloc (.cells #[.iface vt vv, .int .i64 lang] 51)) fun e w' => e = .returned (.agg #[.int .i64 k, .int .i64 p, .int .i64 lang]) ∧ Below (w3.alloc (.cells #[.iface vt vv, .int .i64 lang] 51)).heap.size (w3.alloc (.cells #[.iface vt vv, .int .i64 lang] 51)) w') := by
    have := HT.out _ _ _ HBx2.out HCx2.out
    refine Lib.hid ?_
    simpa [firstOf, HP.out, HL.out] using this
  go_wp2_with fail
  refine HTx2.out.mono ?_
  rintro e w4 ⟨rfl, hbw4⟩
  have Hw4 := Lib.hid (Below.step HBx2.out hbw4)
  have B11a := Lib.hid (kept_block (block_alloc B11.out _) hbw4)
  clear hbw4
  have HB5 : Hid (Below w0.heap.size w0 ((w4.alloc (.cells #[.int .i64 k, .int .i64 pos, .int .i64 l] 26)).alloc (.cells #[.int .i64 k, .int .i64 p, .int .i64 lang] 26))) := Below.step Hw4.out (((Below.refl _ _).alloc (Nat.le_refl _) _).alloc (by simp) _)
  have C11 := Lib.hid (block_alloc (block_alloc B11a.out (.cells #[.int .i64 k, .int .i64 pos, .int .i64 l] 26)) (.cells #[.int .i64 k, .int .i64 p, .int .i64 lang] 26))
  have C12 := Lib.hid (block_alloc (new_block w4 (.cells #[.int .i64 k, .int .i64 pos, .int .i64 l] 26) (Below.refl _ _)) (.cells #[.int .i64 k, .int .i64 p, .int .i64 lang] 26))
  have C13 := Lib.hid (new_block (w4.alloc (.cells #[.int .i64 k, .int .i64 pos, .int .i64 l] 26)) (.cells #[.int .i64 k, .int .i64 p, .int .i64 lang] 26) (Below.refl _ _))
  go_wp2_with fail
  refine (wrap_At _ _ pos _).mono ?_
  rintro e wx ⟨rfl, rfl⟩
  go_wp2_with fail
  refine (wrap_In _ _ lang _).mono ?_
  rintro e wx ⟨rfl, rfl⟩
  have HBx3 : Hid (Below w0.heap.size w0 ((((w4.alloc (.cells #[.int .i64 k, .int .i64 pos, .int .i64 l] 26)).alloc (.cells #[.int .i64 k, .int .i64 p, .int .i64 lang] 26)).alloc (.cells #[.iface vt vv, .int .i64 pos] 46)).alloc (.cells #[(.iface 42 (.pointer (some ⟨w4.heap.size + 1 + 1, 0, none⟩))), .int .i64 lang] 51))) := Below.step HB5.out (((Below.refl _ _).alloc (Nat.le_refl _) _).alloc (by simp) _)
  have HCx3 : Hid (Chn ((((w4.alloc (.cells #[.int .i64 k, .int .i64 pos, .int .i64 l] 26)).alloc (.cells #[.int .i64 k, .int .i64 p, .int .i64 lang] 26)).alloc (.cells #[.iface vt vv, .int .i64 pos] 46)).alloc (.cells #[(.iface 42 (.pointer (some ⟨w4.heap.size + 1 + 1, 0, none⟩))), .int .i64 lang] 51)) ((true, lang) :: (false, pos) :: L) (.iface 47 (.pointer (some ⟨w4.heap.size + 1 + 1 + 1, 0, none⟩))) (bot a)) := by
    refine Lib.hid ?_
    simpa using ((HC.out.below HB5.out).wrapAt pos).wrapIn lang
  have HTx3 : Hid (Calls Tryd.prog 8 #[(.iface 47 (.pointer (some ⟨w4.heap.size + 1 + 1 + 1, 0, none⟩)))] ((((w4.alloc (.cells #[.int .i64 k, .int .i64 pos, .int .i64 l] 26)).alloc (.cells #[.int .i64 k, .int .i64 p, .int .i64 lang] 26)).alloc (.cells #[.iface vt vv, .int .i64 pos] 46)).alloc (.cells #[(.iface 42 (.pointer (some ⟨w4.heap.size + 1 + 1, 0, none⟩))), .int .i64 lang] 51)) fun e w' => e = .returned (.agg #[.int .i64 k, .int .i64 pos, .int .i64 lang]) ∧ Below ((((w4.alloc (.cells #[.int .i64 k, .int .i64 pos, .int .i64 l] 26)).alloc (.cells #[.int .i64 k, .int .i64 p, .int .i64 lang] 26)).alloc (.cells #[.iface vt vv, .int .i64 pos] 46)).alloc (.cells #[(.iface 42 (.pointer (some ⟨w4.heap.size + 1 + 1, 0, none⟩))), .int .i64 lang] 51)).heap.size ((((w4.alloc (.cells #[.int .i64 k, .int .i64 pos, .int .i64 l] 26)).alloc (.cells #[.int .i64 k, .int .i64 p, .int .i64 lang] 26)).alloc (.cells #[.iface vt vv, .int .i64 pos] 46)).alloc (.cells #[(.iface 42 (.pointer (some ⟨w4.heap.size + 1 + 1, 0, none⟩))), .int .i64 lang] 51)) w') := by
    have := HT.out _ _ _ HBx3.out HCx3.out
    refine Lib.hid ?_
    simpa [firstOf, HP.out, HL.out] using this
  go_wp2_with fail
  refine HTx3.out.mono ?_
  rintro e w6 ⟨rfl, hbw6⟩
  have Hw6 := Lib.hid (Below.step HBx3.out hbw6)
  have D11 := Lib.hid (kept_block (block_alloc (block_alloc C11.out _) _) hbw6)
  have D12 := Lib.hid (kept_block (block_alloc (block_alloc C12.out _) _) hbw6)
  have D13 := Lib.hid (kept_block (block_alloc (block_alloc C13.out _) _) hbw6)
  clear hbw6
  have HB7 : Hid (Below w0.heap.size w0 (w6.alloc (.cells #[.int .i64 k, .int .i64 pos, .int .i64 lang] 26))) := Below.step Hw6.out ((Below.refl _ _).alloc (Nat.le_refl _) _)
  go_wp2_with fail
  refine (wrap_In _ _ lang _).mono ?_
  rintro e wx ⟨rfl, rfl⟩
  go_wp2_with fail
  refine (wrap_At _ _ pos _).mono ?_
  rintro e wx ⟨rfl, rfl⟩
  have HBx4 : Hid (Below w0.heap.size w0 (((w6.alloc (.cells #[.int .i64 k, .int .i64 pos, .int .i64 lang] 26)).alloc (.cells #[.iface vt vv, .int .i64 lang] 51)).alloc (.cells #[(.iface 47 (.pointer (some ⟨w6.heap.size + 1, 0, none⟩))), .int .i64 pos] 46))) := Below.step HB7.out (((Below.refl _ _).alloc (Nat.le_refl _) _).alloc (by simp) _)
  have HCx4 : Hid (Chn (((w6.alloc (.cells #[.int .i64 k, .int .i64 pos, .int .i64 lang] 26)).alloc (.cells #[.iface vt vv, .int .i64 lang] 51)).alloc (.cells #[(.iface 47 (.pointer (some ⟨w6.heap.size + 1, 0, none⟩))), .int .i64 pos] 46)) ((false, pos) :: (true, lang) :: L) (.iface 42 (.pointer (some ⟨w6.heap.size + 1 + 1, 0, none⟩))) (bot a)) := by
    refine Lib.hid ?_
    simpa using ((HC.out.below HB7.out).wrapIn lang).wrapAt pos
  have HTx4 : Hid (Calls Tryd.prog 8 #[(.iface 42 (.pointer (some ⟨w6.heap.size + 1 + 1, 0, none⟩)))] (((w6.alloc (.cells #[.int .i64 k, .int .i64 pos, .int .i64 lang] 26)).alloc (.cells #[.iface vt vv, .int .i64 lang] 51)).alloc (.cells #[(.iface 47 (.pointer (some ⟨w6.heap.size + 1, 0, none⟩))), .int .i64 pos] 46)) fun e w' => e = .returned (.agg #[.int .i64 k, .int .i64 pos, .int .i64 lang]) ∧ Below (((w6.alloc (.cells #[.int .i64 k, .int .i64 pos, .int .i64 lang] 26)).alloc (.cells #[.iface vt vv, .int .i64 lang] 51)).alloc (.cells #[(.iface 47 (.pointer (some ⟨w6.heap.size + 1, 0, none⟩))), .int .i64 pos] 46)).heap.size (((w6.alloc (.cells #[.int .i64 k, .int .i64 pos, .int .i64 lang] 26)).alloc (.cells #[.iface vt vv, .int .i64 lang] 51)).alloc (.cells #[(.iface 47 (.pointer (some ⟨w6.heap.size + 1, 0, none⟩))), .int .i64 pos] 46)) w') := by
    have := HT.out _ _ _ HBx4.out HCx4.out
    refine Lib.hid ?_
    simpa [firstOf, HP.out, HL.out] using this
  go_wp2_with fail
  refine HTx4.out.mono ?_
  rintro e w8 ⟨rfl, hbw8⟩
  have Hw8 := Lib.hid (Below.step HBx4.out hbw8)
  have E11 := Lib.hid (block_alloc (kept_block (block_alloc (block_alloc (block_alloc D11.out (.cells #[.int .i64 k, .int .i64 pos, .int .i64 lang] 26)) _) _) hbw8) (.cells #[.int .i64 k, .int .i64 pos, .int .i64 lang] 26))
  have E12 := Lib.hid (block_alloc (kept_block (block_alloc (block_alloc (block_alloc D12.out (.cells #[.int .i64 k, .int .i64 pos, .int .i64 lang] 26)) _) _) hbw8) (.cells #[.int .i64 k, .int .i64 pos, .int .i64 lang] 26))
  have E13 := Lib.hid (block_alloc (kept_block (block_alloc (block_alloc (block_alloc D13.out (.cells #[.int .i64 k, .int .i64 pos, .int .i64 lang] 26)) _) _) hbw8) (.cells #[.int .i64 k, .int .i64 pos, .int .i64 lang] 26))
  have E14 := Lib.hid (block_alloc (kept_block (block_alloc (block_alloc (new_block w6 (.cells #[.int .i64 k, .int .i64 pos, .int .i64 lang] 26) (Below.refl _ _)) _) _) hbw8) (.cells #[.int .i64 k, .int .i64 pos, .int .i64 lang] 26))
  have E15 := Lib.hid (new_block w8 (.cells #[.int .i64 k, .int .i64 pos, .int .i64 lang] 26) (Below.refl _ _))
  have HB9 : Hid (Below w0.heap.size w0 (w8.alloc (.cells #[.int .i64 k, .int .i64 pos, .int .i64 lang] 26))) := Below.step Hw8.out ((Below.refl _ _).alloc (Nat.le_refl _) _)
  clear hbw8
  have T11 := Tri.of E11.out
  have T12 := Tri.of E12.out
  have T13 := Tri.of E13.out
  have T14 := Tri.of E14.out
  have T15 := Tri.of E15.out
  simp only [World.size_alloc] at T13
  obtain ⟨a0, a1, a2, -, -, -⟩ := T11
  obtain ⟨b0, b1, b2, -, -, -⟩ := T12
  obtain ⟨c0, c1, c2, -, -, -⟩ := T13
  obtain ⟨d0, d1, d2, -, -, -⟩ := T14
  obtain ⟨e0, e1, e2, -, -, -⟩ := T15
  go_wp2_with fail
  clear b0 b1 b2 c0 c1 c2 d0 d1 d2 e0 e1 e2 a1 a2
  have hq : Kq w0 w1.heap.size (.int .i64 k) (w8.alloc (.cells #[.int .i64 k, .int .i64 pos, .int .i64 lang] 26)) := ⟨HB9.out, a0, lt_of_block E11.out⟩
  have HQ := Lib.hid hq
  clear hq a0
  generalize w8.alloc (.cells #[.int .i64 k, .int .i64 pos, .int .i64 lang] 26) = W9 at *
  clear HT HP HL Hw3 Hw4 Hw6 Hw8 B11 B11a C11 C12 C13 D11 D12 D13 E11 E12 E13 E14 E15 HB1 HB2 HB5 HB7 HBx1 HBx2 HBx3 HBx4 HCx1 HCx2 HCx3 HCx4 HTx1 HTx2 HTx3 HTx4
  by_cases hk : k = 22
  · subst hk
    clear hcp
    have a0 : W9.cell? ⟨w1.heap.size, 0, none⟩ = some (.int .i64 22) := HQ.out.2.1
    clear HQ
    refine wp_region_any (by kernel_rfl) ?_
    try (change wpAny _ _ _ _ _ _ _ (World.drew _))
    refine wpAny_take (i := 0) (v := ?v0) rfl (by kernel_rfl) (by kernel_rfl) (by kernel_rfl) (fun _ _ _ h => h) (Or.inl ⟨by kernel_rfl, ?hy0⟩) ?rest0
    case hy0 => intro w; go_simp; first | done | with_reducible rfl
    refine wpAny_ready (rs := [1]) (by kernel_rfl) (by simp) ?_
    refine AllReady.cons rfl (fun K hK => ?_) AllReady.nil
    go_simp
    refine hK _ _ ?_
    clear hK K
    refine wpAny_take (i := 2) (v := ?v2) rfl (by kernel_rfl) (by kernel_rfl) (by kernel_rfl) (fun _ _ _ h => h) (Or.inl ⟨by kernel_rfl, ?hy2⟩) ?rest2
    case hy2 => intro w; go_simp; first | done | with_reducible rfl
    refine wpAny_take (i := 3) (v := ?v3) rfl (by kernel_rfl) (by kernel_rfl) (by kernel_rfl) (fun _ _ _ h => h) (Or.inl ⟨by kernel_rfl, ?hy3⟩) ?rest3
    case hy3 => intro w; go_simp; first | done | with_reducible rfl
    refine wpAny_take (i := 4) (v := undef) rfl (by kernel_rfl) (by kernel_rfl) (by kernel_rfl) (fun _ _ _ h => h) (Or.inr ⟨by kernel_rfl, rfl⟩) ?_
    refine wpAny_take (i := 5) (v := undef) rfl (by kernel_rfl) (by kernel_rfl) (by kernel_rfl) (fun _ _ _ h => h) (Or.inr ⟨by kernel_rfl, rfl⟩) ?_
    refine wpAny_take (i := 7) (v := undef) rfl (by kernel_rfl) (by kernel_rfl) (by kernel_rfl) (fun _ _ _ h => h) (Or.inr ⟨by kernel_rfl, rfl⟩) ?_
    refine wpAny_take (i := 9) (v := undef) rfl (by kernel_rfl) (by kernel_rfl) (by kernel_rfl) (fun _ _ _ h => h) (Or.inr ⟨by kernel_rfl, rfl⟩) ?_
    refine wpAny_take (i := 6) (v := undef) rfl (by kernel_rfl) (by kernel_rfl) (by kernel_rfl) (fun _ _ _ h => h) (Or.inr ⟨by kernel_rfl, rfl⟩) ?_
    refine wpAny_take (i := 10) (v := undef) rfl (by kernel_rfl) (by kernel_rfl) (by kernel_rfl) (fun _ _ _ h => h) (Or.inr ⟨by kernel_rfl, rfl⟩) ?_
    refine wpAny_take (i := 8) (v := undef) rfl (by kernel_rfl) (by kernel_rfl) (by kernel_rfl) (fun _ _ _ h => h) (Or.inr ⟨by kernel_rfl, rfl⟩) ?_
    refine wpAny_take (i := 11) (v := undef) rfl (by kernel_rfl) (by kernel_rfl) (by kernel_rfl) (fun _ _ _ h => h) (Or.inr ⟨by kernel_rfl, rfl⟩) ?_
    refine wpAny_take (i := 12) (v := ?v12) rfl (by kernel_rfl) (by kernel_rfl) (by kernel_rfl) (fun _ _ _ h => h) (Or.inl ⟨by kernel_rfl, ?hy12⟩) ?rest12
    case hy12 => intro w; go_simp; first | done | with_reducible rfl
    refine wpAny_take (i := 13) (v := ?v13) rfl (by kernel_rfl) (by kernel_rfl) (by kernel_rfl) (fun _ _ _ h => h) (Or.inl ⟨by kernel_rfl, ?hy13⟩) ?rest13
    case hy13 => intro w; go_simp; first | done | with_reducible rfl
    refine wpAny_ready (rs := [14]) (by kernel_rfl) (by simp) ?_
    refine AllReady.cons rfl (fun K hK => ?_) AllReady.nil
    go_simp
    go_wp2_with (go_at_call 10; refine (awake_any s _ (HS.out.below (Below.step HB0.out HB9.out.drew))).mono ?_; rintro e w' ⟨rfl, hbt⟩)
    try (refine hK _ _ ?_; clear hK K)
    refine wpAny_take (i := 15) (v := ?v15) rfl (by kernel_rfl) (by kernel_rfl) (by kernel_rfl) (fun _ _ _ h => h) (Or.inl ⟨by kernel_rfl, ?hy15⟩) ?rest15
    case hy15 => intro w; go_simp; first | done | with_reducible rfl
    refine wpAny_take (i := 16) (v := ?v16) rfl (by kernel_rfl) (by kernel_rfl) (by kernel_rfl) (fun _ _ _ h => h) (Or.inl ⟨by kernel_rfl, ?hy16⟩) ?rest16
    case hy16 => intro w; go_simp; first | done | with_reducible rfl
    refine wpAny_done (by kernel_rfl) ?_ _
    go_wp2
    go_ret
    exact ⟨rfl, Below.step HB0.out (Below.step HB9.out.drew hbt)⟩
  · have hk1 : ((k : Int) == 22) = false := beq_eq_false_iff_ne.2 (by omega)
    have HI : Hid (k ≤ 21) := by refine Lib.hid ?_; omega
    clear hk hcp
    go_region_held3 (fun w' => Below w0.heap.size w0 w' ∧ w'.cell? ⟨w1.heap.size, 0, none⟩ = some (.int .i64 k) ∧ w1.heap.size < w'.heap.size) (first | exact HQ.out.drew | exact Kq.next (by assumption) (by assumption))
      (first
        | (go_at_call 12; refine (wrapC_At L vt vv a pos _ ?_).mono ?_; exact HC.out.below (And.left (by assumption)); rintro e wx ⟨ut, uv, rfl, hcx, hbx⟩)
        | (go_at_call 13; refine (wrapC_In ((false, pos) :: L) _ _ a lang _ (by assumption)).mono ?_; rintro e wy ⟨ut', uv', rfl, hcy, hby⟩)
        | (go_at_call 11; refine (is_yes ((true, lang) :: (false, pos) :: L) _ a s k _ ?_ ?_ (by assumption) HI.out).mono ?_; exact HS.out.below (Below.step HB0.out (And.left (by assumption))); exact HR.out.below (And.left (by assumption)); rintro e wz ⟨rfl, hbz⟩)
        | (go_at_call 10; refine (awake_any s _ ?_).mono ?_; exact HS.out.below (Below.step HB0.out (And.left (by assumption))); rintro e w' ⟨rfl, hbt⟩))
    all_goals
      go_wp2
      go_ret
      exact ⟨rfl, Below.step HB0.out (And.left (by assumption))⟩

theorem faultWraps_open {H : Type} {enc : TypeId × Value → H} {d0 d1 d2 d3 : DataW H} {p0 p1 p2 p3 : List MemPlace} {q : Prop} (W : World) (base : Nat) (v0 v1 v2 v3 : Value)
    (h0 : DataW.Trod enc Tryd.prog W 0 (fun _ => true) true 3 v0 d0 p0) (h1 : DataW.Trod enc Tryd.prog W 0 (fun _ => true) true 22 v1 d1 p1) (h2 : DataW.Trod enc Tryd.prog W 0 (fun _ => true) true 3 v2 d2 p2) (h3 : DataW.Trod enc Tryd.prog W 0 (fun _ => true) true 3 v3 d3 p3)
    (k0 : Value.okWide Tryd.prog W .any base 3 v0) (k1 : Value.okWide Tryd.prog W .any base 22 v1) (k2 : Value.okWide Tryd.prog W .any base 3 v2) (k3 : Value.okWide Tryd.prog W .any base 3 v3) (_ : q) (hL : laidMetH Tryd.prog Rows.faultWrapsRow.laid W) :
    Calls Tryd.prog 5 #[v0, v1, v2, v3] W fun e W' => e = .returned (.bool true) ∧ Below W.heap.size W W' := by
  obtain ⟨c, rfl, rfl, rfl, wx⟩ := ChangeShapes.open_int Tryd.underlying3 k0 h0
  obtain ⟨pos, rfl, rfl, rfl, wy⟩ := ChangeShapes.open_int Tryd.underlying3 k2 h2
  obtain ⟨lang, rfl, rfl, rfl, wz⟩ := ChangeShapes.open_int Tryd.underlying3 k3 h3
  obtain ⟨len, ws, hw⟩ := wraps_of k1 h1
  obtain ⟨s, hs⟩ := snt_of_laid rfl rfl hL
  by_cases h0 : c = 0
  · subst h0; exact wraps_zero pos lang v1 W s hs
  by_cases h22 : c = 22
  · subst h22; exact wraps_other pos lang v1 W s hs
  exact wraps_some c h0 h22 pos lang v1 len ws W s hs hw
end Go.Proofs.YtmihmaajfcdofaaDoorR
