import Derived.Test.YtnpkcllbpnmabaaGreatDoorKCu
import Derived.Test.YtnpkcllbpnmabaaGreatDoorKSet
import Derived.Deep.QuietTactic
namespace Go.Proofs.YtnpkcllbpnmabaaGreatDoor
open Go.RowKit
def Rdr (w : World) (rb cb : Nat) (s : ByteArray) (k ah : Nat) (lg : Int) : Prop :=
 w.heap[rb]? = some (.cells #[.pointer (some ⟨cb, 0, none⟩), .int .i64 ah, .int .i64 lg] 176) ∧ Cur w cb s k ∧ rb ≠ cb ∧ ah + s.size ≤ 9223372036854775807
theorem Rdr.facts {w : World} {rb cb : Nat} {s : ByteArray} {k ah : Nat} {lg : Int} (h : Rdr w rb cb s k ah lg) :
  w.cell? ⟨rb, 0, none⟩ = some (.pointer (some ⟨cb, 0, none⟩)) ∧ w.cell? ⟨rb, 1, none⟩ = some (.int .i64 ah) ∧ w.cell? ⟨rb, 2, none⟩ = some (.int .i64 lg) ∧ rb < w.heap.size := by
 obtain ⟨h, _⟩ := h
 refine ⟨by simp [World.cell?, h], by simp [World.cell?, h], by simp [World.cell?, h], ?_⟩
 rcases Nat.lt_or_ge rb w.heap.size with h' | h'
 ·exact h'
 ·rw [Array.getElem?_eq_none h'] at h; cases h
theorem Rdr.lt {w : World} {rb cb : Nat} {s : ByteArray} {k ah : Nat} {lg : Int} (h : Rdr w rb cb s k ah lg) : rb < w.heap.size ∧ cb < w.heap.size := ⟨h.facts.2.2.2, h.2.1.facts.2.2.2.2⟩
theorem Rdr.mv {w w' : World} {rb cb : Nat} {s : ByteArray} {k k' ah : Nat} {lg : Int} (h : Rdr w rb cb s k ah lg) (hm : Mv cb s k' w w') : Rdr w' rb cb s k' ah lg :=
 ⟨(hm.2.2 rb h.lt.1 h.2.2.1).trans h.1, hm.2.1, h.2.2.1, h.2.2.2⟩
theorem Mv.below {w w' : World} {b k : Nat} {s : ByteArray} (h : Cur w b s k) (hb : Below w.heap.size w w') : Mv b s k w w' := by
 have hl := h.facts.2.2.2.2
 exact ⟨hb.mono (Nat.le_of_lt hl), ⟨(hb.block b hl).trans h.1, h.2⟩, fun i hi _ => hb.block i hi⟩
theorem begL (s t : ByteArray) (k : Nat) : begB (s.extract k s.size) t = decide (t.size ≤ ((bys s).drop k).length ∧ ((bys s).drop k).take t.size = bys t) := by
 unfold begB
 rw [Bool.eq_iff_iff]
 simp only [decide_eq_true_eq, List.length_drop, bys_length, ByteArray.size_extract, Nat.min_self]
 have e : bys ((s.extract k s.size).extract 0 t.size) = ((bys s).drop k).take t.size := by
  rw [bys_extract, bys_extract, List.drop_zero, Nat.sub_zero, List.take_take]
  by_cases h : t.size ≤ s.size - k
  ·rw [Nat.min_eq_left h]
  ·rw [Nat.min_eq_right (by omega), List.take_of_length_le (by rw [List.length_drop, bys_length]; omega), List.take_of_length_le (by rw [List.length_drop, bys_length]; omega)]
 constructor
 ·rintro ⟨h1, h2⟩; exact ⟨h1, by rw [← e, h2]⟩
 ·rintro ⟨h1, h2⟩; exact ⟨h1, bys_inj (by rw [e, h2])⟩
theorem atL (s : ByteArray) (k i : Nat) : atB s (k + i) = ((bys s).drop k).getD i 0 := by
 unfold atB
 simp [List.getD, List.getElem?_drop]
theorem sz1 (c : UInt8) : (⟨#[c]⟩ : ByteArray).size = 1 := rfl
theorem sz2 (c d : UInt8) : (⟨#[c, d]⟩ : ByteArray).size = 2 := rfl
theorem beg1 (s : ByteArray) (k : Nat) (c : UInt8) (hc : (c.toNat : Int) ≠ 0) : begB (s.extract k s.size) ⟨#[c]⟩ = (atB s k == (c.toNat : Int)) := by
 rw [begL, show atB s k = atB s (k + 0) from rfl, atL]
 rw [show (⟨#[c]⟩ : ByteArray).size = 1 from rfl, show bys ⟨#[c]⟩ = [(c.toNat : Int)] from rfl, Bool.eq_iff_iff]
 rcases (bys s).drop k with _ | ⟨x, r⟩
 ·simp; omega
 ·simp
theorem beg2 (s : ByteArray) (k : Nat) (c d : UInt8) (_hc : (c.toNat : Int) ≠ 0) (hd : (d.toNat : Int) ≠ 0) : begB (s.extract k s.size) ⟨#[c, d]⟩ = (atB s k == (c.toNat : Int) && atB s (k + 1) == (d.toNat : Int)) := by
 rw [begL, show atB s k = atB s (k + 0) from rfl, atL, atL]
 rw [show (⟨#[c, d]⟩ : ByteArray).size = 2 from rfl, show bys ⟨#[c, d]⟩ = [(c.toNat : Int), (d.toNat : Int)] from rfl, Bool.eq_iff_iff]
 rcases (bys s).drop k with _ | ⟨x, _ | ⟨y, r⟩⟩
 ·simp; omega
 ·simp; omega
 ·simp
theorem take1_yes (b k : Nat) (s : ByteArray) (c : UInt8) (w : World) (h : Cur w b s k) (hc : (c.toNat : Int) ≠ 0) (ha : atB s k = (c.toNat : Int)) :
  Calls Tryz.prog 77 #[.pointer (some ⟨b, 0, none⟩), .string ⟨#[c]⟩] w fun e w' => e = .returned (.bool true) ∧ Mv b s (k + 1) w w' := by
 have := take_any b k s ⟨#[c]⟩ w h (by rw [sz1]; decide)
 rw [sz1] at this
 rw [beg1 s k c hc, ha] at this
 simpa using this
theorem take1_no (b k : Nat) (s : ByteArray) (c : UInt8) (w : World) (h : Cur w b s k) (hc : (c.toNat : Int) ≠ 0) (ha : ¬ atB s k = (c.toNat : Int)) :
  Calls Tryz.prog 77 #[.pointer (some ⟨b, 0, none⟩), .string ⟨#[c]⟩] w fun e w' => e = .returned (.bool false) ∧ Mv b s k w w' := by
 have := take_any b k s ⟨#[c]⟩ w h (by rw [sz1]; decide)
 rw [sz1] at this
 rw [beg1 s k c hc, beq_false_of_ne ha] at this
 simpa using this
theorem take2_yes (b k : Nat) (s : ByteArray) (c d : UInt8) (w : World) (h : Cur w b s k) (hc : (c.toNat : Int) ≠ 0) (hd : (d.toNat : Int) ≠ 0) (ha : atB s k = (c.toNat : Int)) (hb : atB s (k + 1) = (d.toNat : Int)) :
  Calls Tryz.prog 77 #[.pointer (some ⟨b, 0, none⟩), .string ⟨#[c, d]⟩] w fun e w' => e = .returned (.bool true) ∧ Mv b s (k + 2) w w' := by
 have := take_any b k s ⟨#[c, d]⟩ w h (by rw [sz2]; decide)
 rw [sz2] at this
 rw [beg2 s k c d hc hd, ha, hb] at this
 simpa using this
theorem take2_no (b k : Nat) (s : ByteArray) (c d : UInt8) (w : World) (h : Cur w b s k) (hc : (c.toNat : Int) ≠ 0) (hd : (d.toNat : Int) ≠ 0) (ha : ¬ (atB s k = (c.toNat : Int) ∧ atB s (k + 1) = (d.toNat : Int))) :
  Calls Tryz.prog 77 #[.pointer (some ⟨b, 0, none⟩), .string ⟨#[c, d]⟩] w fun e w' => e = .returned (.bool false) ∧ Mv b s k w w' := by
 have := take_any b k s ⟨#[c, d]⟩ w h (by rw [sz2]; decide)
 rw [sz2] at this
 have e : (atB s k == (c.toNat : Int) && atB s (k + 1) == (d.toNat : Int)) = false := by
  rw [Bool.eq_false_iff]
  intro h'
  rw [Bool.and_eq_true] at h'
  exact ha ⟨by simpa using h'.1, by simpa using h'.2⟩
 rw [beg2 s k c d hc hd, e] at this
 simpa using this
set_option maxHeartbeats 2000000 in
theorem place_any (rb cb : Nat) (s : ByteArray) (k ah : Nat) (lg : Int) (w : World) (h : Rdr w rb cb s k ah lg) :
  Calls Tryz.prog 90 #[.pointer (some ⟨rb, 0, none⟩)] w fun e w' => e = .returned (.int .i64 (ah + k : Nat)) ∧ Mv cb s k w w' := by
 obtain ⟨r0, r1, r2, hz⟩ := h.facts
 have hk := h.2.1.2.1
 have ha := h.2.2.2
 have HC := Lib.hid h.2.1
 have HP : Hid (∀ n, Calls Tryz.prog 51 #[.pointer (some ⟨cb, 0, none⟩)] (w.drewN n) fun e w' => e = .returned (.int .i64 k) ∧ w' = w.drewN n) := Lib.hid fun n => (pos_any cb k s _ (Mv.drewN h.2.1 n).cur).mono fun _ _ h => ⟨h.1, h.2.symm⟩
 clear h
 have hs : IntKind.i64.wrap ((ah : Int) + k) = (ah : Int) + k := by rw [IntKind.wrap_i64]; omega
 go_enter Tryz.func90, Tryz.ntmps90
 go_wp2
 go_quiet ((go_at_call 51; exact Calls.quiet_of_same (HP.out _)))
 go_wp2
 go_ret
 exact ⟨ret_int (by omega), Mv.drewN HC.out _⟩
set_option maxHeartbeats 4000000 in
theorem dash_yes (rb cb : Nat) (s : ByteArray) (k ah : Nat) (lg : Int) (w : World) (h : Rdr w rb cb s k ah lg) (h1 : atB s k = 45) (h2 : ¬ atB s (k + 1) = 93) :
  Calls Tryz.prog 104 #[.pointer (some ⟨rb, 0, none⟩)] w fun e w' => e = .returned (.bool true) ∧ Mv cb s (k + 1) w w' := by
 obtain ⟨r0, r1, r2, hz⟩ := h.facts
 have HH := Lib.hid h
 have HT1 := Lib.hid (take2_no cb k s 45 93 w h.2.1 (by decide) (by decide) (fun h => h2 h.2))
 have HT2 : Hid (∀ w', Cur w' cb s k → Calls Tryz.prog 77 #[.pointer (some ⟨cb, 0, none⟩), .string ⟨#[45]⟩] w' fun e w'' => e = .returned (.bool true) ∧ Mv cb s (k + 1) w' w'') := Lib.hid fun w' h' => take1_yes cb k s 45 w' h' (by decide) h1
 clear h h1 h2
 go_enter Tryz.func104, Tryz.ntmps104
 go_wp2_with fail
 refine HT1.out.mono ?_
 rintro e w1 ⟨rfl, hm1⟩
 have HM1 := Lib.hid hm1
 obtain ⟨q0, q1, q2, qz⟩ := (HH.out.mv hm1).facts
 clear hm1
 go_wp2_with fail
 refine (HT2.out _ HM1.out.cur).mono ?_
 rintro e w2 ⟨rfl, hm2⟩
 have HM2 := Lib.hid (HM1.out.trans hm2)
 clear hm2
 go_wp2
 go_ret
 exact ⟨rfl, HM2.out⟩
set_option maxHeartbeats 4000000 in
theorem dash_no (rb cb : Nat) (s : ByteArray) (k ah : Nat) (lg : Int) (w : World) (h : Rdr w rb cb s k ah lg) (h1 : ¬ atB s k = 45) :
  Calls Tryz.prog 104 #[.pointer (some ⟨rb, 0, none⟩)] w fun e w' => e = .returned (.bool false) ∧ Mv cb s k w w' := by
 obtain ⟨r0, r1, r2, hz⟩ := h.facts
 have HH := Lib.hid h
 have HT1 := Lib.hid (take2_no cb k s 45 93 w h.2.1 (by decide) (by decide) (fun h => h1 h.1))
 have HT2 : Hid (∀ w', Cur w' cb s k → Calls Tryz.prog 77 #[.pointer (some ⟨cb, 0, none⟩), .string ⟨#[45]⟩] w' fun e w'' => e = .returned (.bool false) ∧ Mv cb s k w' w'') := Lib.hid fun w' h' => take1_no cb k s 45 w' h' (by decide) h1
 clear h h1
 go_enter Tryz.func104, Tryz.ntmps104
 go_wp2_with fail
 refine HT1.out.mono ?_
 rintro e w1 ⟨rfl, hm1⟩
 have HM1 := Lib.hid hm1
 obtain ⟨q0, q1, q2, qz⟩ := (HH.out.mv hm1).facts
 clear hm1
 go_wp2_with fail
 refine (HT2.out _ HM1.out.cur).mono ?_
 rintro e w2 ⟨rfl, hm2⟩
 have HM2 := Lib.hid (HM1.out.trans hm2)
 clear hm2
 go_wp2
 go_ret
 exact ⟨rfl, HM2.out⟩
set_option maxHeartbeats 4000000 in
theorem dash_end (rb cb : Nat) (s : ByteArray) (k ah : Nat) (lg : Int) (w : World) (h : Rdr w rb cb s k ah lg) (h1 : atB s k = 45) (h2 : atB s (k + 1) = 93) :
  Calls Tryz.prog 104 #[.pointer (some ⟨rb, 0, none⟩)] w fun e w' => e = .returned (.bool false) ∧ Mv cb s k w w' := by
 obtain ⟨r0, r1, r2, hz⟩ := h.facts
 have HH := Lib.hid h
 have HT1 := Lib.hid (take2_yes cb k s 45 93 w h.2.1 (by decide) (by decide) h1 h2)
 have HT2 : Hid (∀ w', Cur w' cb s (k + 2) → Calls Tryz.prog 72 #[.pointer (some ⟨cb, 0, none⟩), .int .i64 2] w' fun e w'' => e = .returned (.bool true) ∧ Mv cb s (k + 2 - 2) w' w'') := Lib.hid fun w' h' => back_yes cb (k + 2) 2 s w' h' (by omega)
 rw [Nat.add_sub_cancel] at HT2
 clear h h1 h2
 go_enter Tryz.func104, Tryz.ntmps104
 go_wp2_with fail
 refine HT1.out.mono ?_
 rintro e w1 ⟨rfl, hm1⟩
 have HM1 := Lib.hid hm1
 obtain ⟨q0, q1, q2, qz⟩ := (HH.out.mv hm1).facts
 clear hm1
 go_wp2_with fail
 refine (HT2.out _ HM1.out.cur).mono ?_
 rintro e w2 ⟨rfl, hm2⟩
 have HM2 := Lib.hid (HM1.out.trans hm2)
 clear hm2
 go_wp2
 go_ret
 exact ⟨rfl, HM2.out⟩
def IV (pl : Nat) (cl : Bool) (p : Nat → Bool) (b : Int) : Value := .agg #[.int .i64 pl, .bool cl, .int .u64 (sw p 0 : Nat), .int .u64 (sw p 1 : Nat), .int .u64 (sw p 2 : Nat), .int .u64 (sw p 3 : Nat), .int .u8 b]
theorem item_no : ((sw noP 0 : Nat) : Int) = 0 ∧ ((sw noP 1 : Nat) : Int) = 0 ∧ ((sw noP 2 : Nat) : Int) = 0 ∧ ((sw noP 3 : Nat) : Int) = 0 := ⟨sw_zero 0, sw_zero 1, sw_zero 2, sw_zero 3⟩
theorem alloc_last (w : World) (o : Obj) : (w.alloc o).heap[w.heap.size]? = some o := by
 show (w.heap.push _)[w.heap.size]? = _
 simp
theorem cells7 {w : World} {g : Nat} {t : TypeId} {a0 a1 a2 a3 a4 a5 a6 : Value} (h : w.heap[g]? = some (.cells #[a0, a1, a2, a3, a4, a5, a6] t)) :
  (w.cell? ⟨g, 0, none⟩ = some a0 ∧ w.cell? ⟨g, 1, none⟩ = some a1 ∧ w.cell? ⟨g, 2, none⟩ = some a2 ∧ w.cell? ⟨g, 3, none⟩ = some a3 ∧ w.cell? ⟨g, 4, none⟩ = some a4 ∧ w.cell? ⟨g, 5, none⟩ = some a5 ∧ w.cell? ⟨g, 6, none⟩ = some a6) ∧
  (w.frozen? ⟨g, 0, none⟩ = false ∧ w.frozen? ⟨g, 1, none⟩ = false ∧ w.frozen? ⟨g, 2, none⟩ = false ∧ w.frozen? ⟨g, 3, none⟩ = false ∧ w.frozen? ⟨g, 4, none⟩ = false ∧ w.frozen? ⟨g, 5, none⟩ = false ∧ w.frozen? ⟨g, 6, none⟩ = false) ∧ g < w.heap.size := by
 refine ⟨⟨by simp [World.cell?, h], by simp [World.cell?, h], by simp [World.cell?, h], by simp [World.cell?, h], by simp [World.cell?, h], by simp [World.cell?, h], by simp [World.cell?, h]⟩,
  ⟨by simp [World.frozen?, h], by simp [World.frozen?, h], by simp [World.frozen?, h], by simp [World.frozen?, h], by simp [World.frozen?, h], by simp [World.frozen?, h], by simp [World.frozen?, h]⟩, ?_⟩
 rcases Nat.lt_or_ge g w.heap.size with h' | h'
 ·exact h'
 ·rw [Array.getElem?_eq_none h'] at h; cases h
theorem Mv.setOther {w w' : World} {b k : Nat} {s : ByteArray} (h : Mv b s k w w') (g i : Nat) (v : Value) (hg : w.heap.size ≤ g) (hb : b < w.heap.size) : Mv b s k w (w'.setCell ⟨g, i, none⟩ v) := by
 have hne : ∀ j, j < w.heap.size → (w'.setCell ⟨g, i, none⟩ v).heap[j]? = w'.heap[j]? := fun j hj => Below.heap_setCell _ _ _ _ (by simp; omega)
 exact ⟨h.1.setCell (by simp; omega) _, ⟨(hne b hb).trans h.2.1.1, h.2.1.2⟩, fun j hj hjb => (hne j hj).trans (h.2.2 j hj hjb)⟩
theorem cells4 {w : World} {g : Nat} {t : TypeId} {a0 a1 a2 a3 : Value} (h : w.heap[g]? = some (.cells #[a0, a1, a2, a3] t)) :
  (w.cell? ⟨g, 0, none⟩ = some a0 ∧ w.cell? ⟨g, 1, none⟩ = some a1 ∧ w.cell? ⟨g, 2, none⟩ = some a2 ∧ w.cell? ⟨g, 3, none⟩ = some a3) ∧
  (w.frozen? ⟨g, 0, none⟩ = false ∧ w.frozen? ⟨g, 1, none⟩ = false ∧ w.frozen? ⟨g, 2, none⟩ = false ∧ w.frozen? ⟨g, 3, none⟩ = false) ∧ g < w.heap.size := by
 refine ⟨⟨by simp [World.cell?, h], by simp [World.cell?, h], by simp [World.cell?, h], by simp [World.cell?, h]⟩,
  ⟨by simp [World.frozen?, h], by simp [World.frozen?, h], by simp [World.frozen?, h], by simp [World.frozen?, h]⟩, ?_⟩
 rcases Nat.lt_or_ge g w.heap.size with h' | h'
 ·exact h'
 ·rw [Array.getElem?_eq_none h'] at h; cases h
theorem hasB_any (lg : Int) (w : World) (h : lg = 2 ∨ lg = 3 ∨ lg = 4) :
  Calls Tryz.prog 87 #[.int .i64 lg] w fun e w' => e = .returned (.bool true) ∧ w = w' := by
 rcases h with rfl | rfl | rfl
 all_goals
  go_enter Tryz.func87, Tryz.ntmps87
  go_wp2
  go_ret
  exact ⟨rfl, rfl⟩
end Go.Proofs.YtnpkcllbpnmabaaGreatDoor
