/- KRdr: several texts in one (kmerge.py). -/
import Derived.Test.YtopnckfmdjhbjaaDoorScCur
import Derived.Test.YtopnckfmdjhbjaaDoorKSet
import Derived.Deep.QuietTactic
/- The reader of brackets: its state; place, takeDash; a byte as an item. -/
namespace Go.Proofs.YtopnckfmdjhbjaaDoor
open Go.RowKit

/-- The reader in block rb: its cursor in block cb over s at place k; ah bytes ahead; the language lg. -/
def Rdr (w : World) (rb cb : Nat) (s : ByteArray) (k ah : Nat) (lg : Int) : Prop :=
  w.heap[rb]? = some (.cells #[.pointer (some ⟨cb, 0, none⟩), .int .i64 ah, .int .i64 lg] 89) ∧ Cur w cb s k ∧ rb ≠ cb ∧ ah + s.size ≤ 9223372036854775807
theorem Rdr.facts {w : World} {rb cb : Nat} {s : ByteArray} {k ah : Nat} {lg : Int} (h : Rdr w rb cb s k ah lg) :
    w.cell? ⟨rb, 0, none⟩ = some (.pointer (some ⟨cb, 0, none⟩)) ∧ w.cell? ⟨rb, 1, none⟩ = some (.int .i64 ah) ∧ w.cell? ⟨rb, 2, none⟩ = some (.int .i64 lg) ∧ rb < w.heap.size := by
  obtain ⟨h, _⟩ := h
  refine ⟨by simp [World.cell?, h], by simp [World.cell?, h], by simp [World.cell?, h], ?_⟩
  rcases Nat.lt_or_ge rb w.heap.size with h' | h'
  · exact h'
  · rw [Array.getElem?_eq_none h'] at h; cases h
theorem Rdr.lt {w : World} {rb cb : Nat} {s : ByteArray} {k ah : Nat} {lg : Int} (h : Rdr w rb cb s k ah lg) : rb < w.heap.size ∧ cb < w.heap.size := ⟨h.facts.2.2.2, h.2.1.facts.2.2.2.2⟩
/-- What a call of the reader does: only the cursor's block moves; all else is as it was. -/
theorem Rdr.mv {w w' : World} {rb cb : Nat} {s : ByteArray} {k k' ah : Nat} {lg : Int} (h : Rdr w rb cb s k ah lg) (hm : Mv cb s k' w w') : Rdr w' rb cb s k' ah lg :=
  ⟨(hm.2.2 rb h.lt.1 h.2.2.1).trans h.1, hm.2.1, h.2.2.1, h.2.2.2⟩
theorem Mv.below {w w' : World} {b k : Nat} {s : ByteArray} (h : Cur w b s k) (hb : Below w.heap.size w w') : Mv b s k w w' := by
  have hl := h.facts.2.2.2.2
  exact ⟨hb.mono (Nat.le_of_lt hl), ⟨(hb.block b hl).trans h.1, h.2⟩, fun i hi _ => hb.block i hi⟩

/-- How the bytes read at a place. -/
theorem begL (s t : ByteArray) (k : Nat) : begB (s.extract k s.size) t = decide (t.size ≤ ((bys s).drop k).length ∧ ((bys s).drop k).take t.size = bys t) := by
  unfold begB
  rw [Bool.eq_iff_iff]
  simp only [decide_eq_true_eq, List.length_drop, bys_length, ByteArray.size_extract, Nat.min_self]
  have e : bys ((s.extract k s.size).extract 0 t.size) = ((bys s).drop k).take t.size := by
    rw [bys_extract, bys_extract, List.drop_zero, Nat.sub_zero, List.take_take]
    by_cases h : t.size ≤ s.size - k
    · rw [Nat.min_eq_left h]
    · rw [Nat.min_eq_right (by omega), List.take_of_length_le (by rw [List.length_drop, bys_length]; omega), List.take_of_length_le (by rw [List.length_drop, bys_length]; omega)]
  constructor
  · rintro ⟨h1, h2⟩; exact ⟨h1, by rw [← e, h2]⟩
  · rintro ⟨h1, h2⟩; exact ⟨h1, bys_inj (by rw [e, h2])⟩
theorem atL (s : ByteArray) (k i : Nat) : atB s (k + i) = ((bys s).drop k).getD i 0 := by
  unfold atB
  simp [List.getD, List.getElem?_drop]
theorem sz1 (c : UInt8) : (⟨#[c]⟩ : ByteArray).size = 1 := rfl
theorem sz2 (c d : UInt8) : (⟨#[c, d]⟩ : ByteArray).size = 2 := rfl
theorem beg1 (s : ByteArray) (k : Nat) (c : UInt8) (hc : (c.toNat : Int) ≠ 0) : begB (s.extract k s.size) ⟨#[c]⟩ = (atB s k == (c.toNat : Int)) := by
  rw [begL, show atB s k = atB s (k + 0) from rfl, atL]
  rw [show (⟨#[c]⟩ : ByteArray).size = 1 from rfl, show bys ⟨#[c]⟩ = [(c.toNat : Int)] from rfl, Bool.eq_iff_iff]
  rcases (bys s).drop k with _ | ⟨x, r⟩
  · simp; omega
  · simp
theorem beg2 (s : ByteArray) (k : Nat) (c d : UInt8) (_hc : (c.toNat : Int) ≠ 0) (hd : (d.toNat : Int) ≠ 0) : begB (s.extract k s.size) ⟨#[c, d]⟩ = (atB s k == (c.toNat : Int) && atB s (k + 1) == (d.toNat : Int)) := by
  rw [begL, show atB s k = atB s (k + 0) from rfl, atL, atL]
  rw [show (⟨#[c, d]⟩ : ByteArray).size = 2 from rfl, show bys ⟨#[c, d]⟩ = [(c.toNat : Int), (d.toNat : Int)] from rfl, Bool.eq_iff_iff]
  rcases (bys s).drop k with _ | ⟨x, _ | ⟨y, r⟩⟩
  · simp; omega
  · simp; omega
  · simp
/-- Take of one byte, of two. -/
theorem take1_yes (b k : Nat) (s : ByteArray) (c : UInt8) (w : World) (h : Cur w b s k) (hc : (c.toNat : Int) ≠ 0) (ha : atB s k = (c.toNat : Int)) :
    Calls Tryd.prog 78 #[.pointer (some ⟨b, 0, none⟩), .string ⟨#[c]⟩] w fun e w' => e = .returned (.bool true) ∧ Mv b s (k + 1) w w' := by
  have := take_any b k s ⟨#[c]⟩ w h (by rw [sz1]; decide)
  rw [sz1] at this
  rw [beg1 s k c hc, ha] at this
  simpa using this
theorem take1_no (b k : Nat) (s : ByteArray) (c : UInt8) (w : World) (h : Cur w b s k) (hc : (c.toNat : Int) ≠ 0) (ha : ¬ atB s k = (c.toNat : Int)) :
    Calls Tryd.prog 78 #[.pointer (some ⟨b, 0, none⟩), .string ⟨#[c]⟩] w fun e w' => e = .returned (.bool false) ∧ Mv b s k w w' := by
  have := take_any b k s ⟨#[c]⟩ w h (by rw [sz1]; decide)
  rw [sz1] at this
  rw [beg1 s k c hc, beq_false_of_ne ha] at this
  simpa using this
theorem take2_yes (b k : Nat) (s : ByteArray) (c d : UInt8) (w : World) (h : Cur w b s k) (hc : (c.toNat : Int) ≠ 0) (hd : (d.toNat : Int) ≠ 0) (ha : atB s k = (c.toNat : Int)) (hb : atB s (k + 1) = (d.toNat : Int)) :
    Calls Tryd.prog 78 #[.pointer (some ⟨b, 0, none⟩), .string ⟨#[c, d]⟩] w fun e w' => e = .returned (.bool true) ∧ Mv b s (k + 2) w w' := by
  have := take_any b k s ⟨#[c, d]⟩ w h (by rw [sz2]; decide)
  rw [sz2] at this
  rw [beg2 s k c d hc hd, ha, hb] at this
  simpa using this
theorem take2_no (b k : Nat) (s : ByteArray) (c d : UInt8) (w : World) (h : Cur w b s k) (hc : (c.toNat : Int) ≠ 0) (hd : (d.toNat : Int) ≠ 0) (ha : ¬ (atB s k = (c.toNat : Int) ∧ atB s (k + 1) = (d.toNat : Int))) :
    Calls Tryd.prog 78 #[.pointer (some ⟨b, 0, none⟩), .string ⟨#[c, d]⟩] w fun e w' => e = .returned (.bool false) ∧ Mv b s k w w' := by
  have := take_any b k s ⟨#[c, d]⟩ w h (by rw [sz2]; decide)
  rw [sz2] at this
  have e : (atB s k == (c.toNat : Int) && atB s (k + 1) == (d.toNat : Int)) = false := by
    rw [Bool.eq_false_iff]
    intro h'
    rw [Bool.and_eq_true] at h'
    exact ha ⟨by simpa using h'.1, by simpa using h'.2⟩
  rw [beg2 s k c d hc hd, e] at this
  simpa using this

set_option maxHeartbeats 2000000 in
theorem place_any (rb cb : Nat) (s : ByteArray) (k ah : Nat) (lg : Int) (w : World) (h : Rdr w rb cb s k ah lg) :
    Calls Tryd.prog 55 #[.pointer (some ⟨rb, 0, none⟩)] w fun e w' => e = .returned (.int .i64 (ah + k : Nat)) ∧ Mv cb s k w w' := by
  obtain ⟨r0, r1, r2, hz⟩ := h.facts
  have hk := h.2.1.2.1
  have ha := h.2.2.2
  have HC := Lib.hid h.2.1
  have HP : Hid (∀ n, Calls Tryd.prog 82 #[.pointer (some ⟨cb, 0, none⟩)] (w.drewN n) fun e w' => e = .returned (.int .i64 k) ∧ w' = w.drewN n) := Lib.hid fun n => (pos_any cb k s _ (Mv.drewN h.2.1 n).cur).mono fun _ _ h => ⟨h.1, h.2.symm⟩
  clear h
  have hs : IntKind.i64.wrap ((ah : Int) + k) = (ah : Int) + k := by rw [IntKind.wrap_i64]; omega
  go_enter Tryd.func55, Tryd.ntmps55
  go_wp2
  go_quiet ((go_at_call 82; exact Calls.quiet_of_same (HP.out _)))
  go_wp2
  go_ret
  exact ⟨ret_int (by omega), Mv.drewN HC.out _⟩

set_option maxHeartbeats 4000000 in
/-- takeDash: does a range go on here. -/
theorem dash_yes (rb cb : Nat) (s : ByteArray) (k ah : Nat) (lg : Int) (w : World) (h : Rdr w rb cb s k ah lg) (h1 : atB s k = 45) (h2 : ¬ atB s (k + 1) = 93) :
    Calls Tryd.prog 96 #[.pointer (some ⟨rb, 0, none⟩)] w fun e w' => e = .returned (.bool true) ∧ Mv cb s (k + 1) w w' := by
  obtain ⟨r0, r1, r2, hz⟩ := h.facts
  have HH := Lib.hid h
  have HT1 := Lib.hid (take2_no cb k s 45 93 w h.2.1 (by decide) (by decide) (fun h => h2 h.2))
  have HT2 : Hid (∀ w', Cur w' cb s k → Calls Tryd.prog 78 #[.pointer (some ⟨cb, 0, none⟩), .string ⟨#[45]⟩] w' fun e w'' => e = .returned (.bool true) ∧ Mv cb s (k + 1) w' w'') := Lib.hid fun w' h' => take1_yes cb k s 45 w' h' (by decide) h1
  clear h h1 h2
  go_enter Tryd.func96, Tryd.ntmps96
  go_wp2_with fail
  refine HT1.out.mono ?_
  rintro e w1 ⟨rfl, hm1⟩
  have HM1 := Lib.hid hm1
  obtain ⟨q0, q1, q2, qz⟩ := (HH.out.mv hm1).facts
  clear hm1
  go_wp2_with fail
  refine (HT2.out _ HM1.out.cur).mono ?_
  rintro e w2 ⟨rfl, hm2⟩
  have HM2 := Lib.hid (HM1.out.trans hm2)
  clear hm2
  go_wp2
  go_ret
  exact ⟨rfl, HM2.out⟩
set_option maxHeartbeats 4000000 in
theorem dash_no (rb cb : Nat) (s : ByteArray) (k ah : Nat) (lg : Int) (w : World) (h : Rdr w rb cb s k ah lg) (h1 : ¬ atB s k = 45) :
    Calls Tryd.prog 96 #[.pointer (some ⟨rb, 0, none⟩)] w fun e w' => e = .returned (.bool false) ∧ Mv cb s k w w' := by
  obtain ⟨r0, r1, r2, hz⟩ := h.facts
  have HH := Lib.hid h
  have HT1 := Lib.hid (take2_no cb k s 45 93 w h.2.1 (by decide) (by decide) (fun h => h1 h.1))
  have HT2 : Hid (∀ w', Cur w' cb s k → Calls Tryd.prog 78 #[.pointer (some ⟨cb, 0, none⟩), .string ⟨#[45]⟩] w' fun e w'' => e = .returned (.bool false) ∧ Mv cb s k w' w'') := Lib.hid fun w' h' => take1_no cb k s 45 w' h' (by decide) h1
  clear h h1
  go_enter Tryd.func96, Tryd.ntmps96
  go_wp2_with fail
  refine HT1.out.mono ?_
  rintro e w1 ⟨rfl, hm1⟩
  have HM1 := Lib.hid hm1
  obtain ⟨q0, q1, q2, qz⟩ := (HH.out.mv hm1).facts
  clear hm1
  go_wp2_with fail
  refine (HT2.out _ HM1.out.cur).mono ?_
  rintro e w2 ⟨rfl, hm2⟩
  have HM2 := Lib.hid (HM1.out.trans hm2)
  clear hm2
  go_wp2
  go_ret
  exact ⟨rfl, HM2.out⟩
set_option maxHeartbeats 4000000 in
theorem dash_end (rb cb : Nat) (s : ByteArray) (k ah : Nat) (lg : Int) (w : World) (h : Rdr w rb cb s k ah lg) (h1 : atB s k = 45) (h2 : atB s (k + 1) = 93) :
    Calls Tryd.prog 96 #[.pointer (some ⟨rb, 0, none⟩)] w fun e w' => e = .returned (.bool false) ∧ Mv cb s k w w' := by
  obtain ⟨r0, r1, r2, hz⟩ := h.facts
  have HH := Lib.hid h
  have HT1 := Lib.hid (take2_yes cb k s 45 93 w h.2.1 (by decide) (by decide) h1 h2)
  have HT2 : Hid (∀ w', Cur w' cb s (k + 2) → Calls Tryd.prog 120 #[.pointer (some ⟨cb, 0, none⟩), .int .i64 2] w' fun e w'' => e = .returned (.bool true) ∧ Mv cb s (k + 2 - 2) w' w'') := Lib.hid fun w' h' => back_yes cb (k + 2) 2 s w' h' (by omega)
  rw [Nat.add_sub_cancel] at HT2
  clear h h1 h2
  go_enter Tryd.func96, Tryd.ntmps96
  go_wp2_with fail
  refine HT1.out.mono ?_
  rintro e w1 ⟨rfl, hm1⟩
  have HM1 := Lib.hid hm1
  obtain ⟨q0, q1, q2, qz⟩ := (HH.out.mv hm1).facts
  clear hm1
  go_wp2_with fail
  refine (HT2.out _ HM1.out.cur).mono ?_
  rintro e w2 ⟨rfl, hm2⟩
  have HM2 := Lib.hid (HM1.out.trans hm2)
  clear hm2
  go_wp2
  go_ret
  exact ⟨rfl, HM2.out⟩
end Go.Proofs.YtopnckfmdjhbjaaDoor
/- A byte as an item; a part of one byte, and of a range. -/
namespace Go.Proofs.YtopnckfmdjhbjaaDoor
open Go.RowKit

/-- An item's value: its place, whether it is a class, the class's words, the byte. -/
def IV (pl : Nat) (cl : Bool) (p : Nat → Bool) (b : Int) : Value := .agg #[.int .i64 pl, .bool cl, .int .u64 (sw p 0 : Nat), .int .u64 (sw p 1 : Nat), .int .u64 (sw p 2 : Nat), .int .u64 (sw p 3 : Nat), .int .u8 b]

theorem item_no : ((sw noP 0 : Nat) : Int) = 0 ∧ ((sw noP 1 : Nat) : Int) = 0 ∧ ((sw noP 2 : Nat) : Int) = 0 ∧ ((sw noP 3 : Nat) : Int) = 0 := ⟨sw_zero 0, sw_zero 1, sw_zero 2, sw_zero 3⟩
theorem alloc_last (w : World) (o : Obj) : (w.alloc o).heap[w.heap.size]? = some o := by
  show (w.heap.push _)[w.heap.size]? = _
  simp
/-- A block of seven cells, as it stands. -/
theorem cells7 {w : World} {g : Nat} {t : TypeId} {a0 a1 a2 a3 a4 a5 a6 : Value} (h : w.heap[g]? = some (.cells #[a0, a1, a2, a3, a4, a5, a6] t)) :
    (w.cell? ⟨g, 0, none⟩ = some a0 ∧ w.cell? ⟨g, 1, none⟩ = some a1 ∧ w.cell? ⟨g, 2, none⟩ = some a2 ∧ w.cell? ⟨g, 3, none⟩ = some a3 ∧ w.cell? ⟨g, 4, none⟩ = some a4 ∧ w.cell? ⟨g, 5, none⟩ = some a5 ∧ w.cell? ⟨g, 6, none⟩ = some a6) ∧
    (w.frozen? ⟨g, 0, none⟩ = false ∧ w.frozen? ⟨g, 1, none⟩ = false ∧ w.frozen? ⟨g, 2, none⟩ = false ∧ w.frozen? ⟨g, 3, none⟩ = false ∧ w.frozen? ⟨g, 4, none⟩ = false ∧ w.frozen? ⟨g, 5, none⟩ = false ∧ w.frozen? ⟨g, 6, none⟩ = false) ∧ g < w.heap.size := by
  refine ⟨⟨by simp [World.cell?, h], by simp [World.cell?, h], by simp [World.cell?, h], by simp [World.cell?, h], by simp [World.cell?, h], by simp [World.cell?, h], by simp [World.cell?, h]⟩,
    ⟨by simp [World.frozen?, h], by simp [World.frozen?, h], by simp [World.frozen?, h], by simp [World.frozen?, h], by simp [World.frozen?, h], by simp [World.frozen?, h], by simp [World.frozen?, h]⟩, ?_⟩
  rcases Nat.lt_or_ge g w.heap.size with h' | h'
  · exact h'
  · rw [Array.getElem?_eq_none h'] at h; cases h
theorem Mv.setOther {w w' : World} {b k : Nat} {s : ByteArray} (h : Mv b s k w w') (g i : Nat) (v : Value) (hg : w.heap.size ≤ g) (hb : b < w.heap.size) : Mv b s k w (w'.setCell ⟨g, i, none⟩ v) := by
  have hne : ∀ j, j < w.heap.size → (w'.setCell ⟨g, i, none⟩ v).heap[j]? = w'.heap[j]? := fun j hj => Below.heap_setCell _ _ _ _ (by simp; omega)
  exact ⟨h.1.setCell (by simp; omega) _, ⟨(hne b hb).trans h.2.1.1, h.2.1.2⟩, fun j hj hjb => (hne j hj).trans (h.2.2 j hj hjb)⟩

set_option maxRecDepth 100000 in
set_option maxHeartbeats 8000000 in
theorem item_byte (rb cb : Nat) (s : ByteArray) (k ah : Nat) (lg : Int) (w : World) (h : Rdr w rb cb s k ah lg) (hlg : ¬ lg = 2) (hk : k < s.size) (h1 : ¬ atB s k = 91) :
    Calls Tryd.prog 95 #[.pointer (some ⟨rb, 0, none⟩)] w fun e w' => e = .returned (.tuple #[IV (ah + k) false noP (atB s k), .nilIface]) ∧ Mv cb s (k + 1) w w' := by
  have HH := Lib.hid h
  have HP : Hid (∀ w', Rdr w' rb cb s k ah lg → Calls Tryd.prog 55 #[.pointer (some ⟨rb, 0, none⟩)] w' fun e w'' => e = .returned (.int .i64 (ah + k : Nat)) ∧ Mv cb s k w' w'') := Lib.hid fun w' h' => place_any rb cb s k ah lg w' h'
  have HT1 : Hid (∀ w', Cur w' cb s k → Calls Tryd.prog 78 #[.pointer (some ⟨cb, 0, none⟩), .string ⟨#[91, 58]⟩] w' fun e w'' => e = .returned (.bool false) ∧ Mv cb s k w' w'') := Lib.hid fun w' h' => take2_no cb k s 91 58 w' h' (by decide) (by decide) (fun h => h1 h.1)
  have HT2 : Hid (∀ w', Cur w' cb s k → Calls Tryd.prog 78 #[.pointer (some ⟨cb, 0, none⟩), .string ⟨#[91, 46]⟩] w' fun e w'' => e = .returned (.bool false) ∧ Mv cb s k w' w'') := Lib.hid fun w' h' => take2_no cb k s 91 46 w' h' (by decide) (by decide) (fun h => h1 h.1)
  have HT3 : Hid (∀ w', Cur w' cb s k → Calls Tryd.prog 78 #[.pointer (some ⟨cb, 0, none⟩), .string ⟨#[91, 61]⟩] w' fun e w'' => e = .returned (.bool false) ∧ Mv cb s k w' w'') := Lib.hid fun w' h' => take2_no cb k s 91 61 w' h' (by decide) (by decide) (fun h => h1 h.1)
  have HN : Hid (∀ w', Cur w' cb s k → Calls Tryd.prog 119 #[.pointer (some ⟨cb, 0, none⟩)] w' fun e w'' => e = .returned (.tuple #[.int .u8 (atB s k), .bool true]) ∧ Mv cb s (k + 1) w' w'') := Lib.hid fun w' h' => by
    have := next_any cb k s w' h'
    rw [if_pos hk, decide_eq_true hk] at this
    exact this
  clear h h1
  generalize atB s k = c at *
  go_enter Tryd.func95, Tryd.ntmps95
  go_wp2_with fail
  obtain ⟨W, hW⟩ : ∃ W, W = w.alloc (.cells #[.int .i64 0, .bool false, .int .u64 0, .int .u64 0, .int .u64 0, .int .u64 0, .int .u8 0] 139) := ⟨_, rfl⟩
  rw [← hW]
  have HMW : Hid (Mv cb s k w W) := Lib.hid (by rw [hW]; exact Mv.below HH.out.2.1 ((Below.refl _ _).alloc (Nat.le_refl _) _))
  have HG0 : Hid (W.heap[w.heap.size]? = some (.cells #[.int .i64 0, .bool false, .int .u64 0, .int .u64 0, .int .u64 0, .int .u64 0, .int .u8 0] 139)) := Lib.hid (by rw [hW]; exact alloc_last w _)
  have hsz : w.heap.size < W.heap.size := by rw [hW]; simp
  clear hW
  have hcb := HH.out.lt.2
  have HR0 := Lib.hid (HH.out.mv HMW.out)
  have HM0 := Lib.hid (Mv.refl HR0.out.2.1)
  refine (HP.out _ HR0.out).mono ?_
  rintro e w1 ⟨rfl, hm1⟩
  have HM1 := Lib.hid (HM0.out.trans hm1)
  have HR1 := Lib.hid (HR0.out.mv HM1.out)
  obtain ⟨a10, a11, a12, a1z⟩ := HR1.out.facts
  clear hm1
  go_wp2_with fail
  refine (HT1.out _ HR1.out.2.1).mono ?_
  rintro e w2 ⟨rfl, hm2⟩
  have HM2 := Lib.hid (HM1.out.trans hm2)
  have HR2 := Lib.hid (HR0.out.mv HM2.out)
  obtain ⟨a20, a21, a22, a2z⟩ := HR2.out.facts
  clear hm2
  go_wp2_with fail
  refine (HT2.out _ HR2.out.2.1).mono ?_
  rintro e w3 ⟨rfl, hm3⟩
  have HM3 := Lib.hid (HM2.out.trans hm3)
  have HR3 := Lib.hid (HR0.out.mv HM3.out)
  obtain ⟨a30, a31, a32, a3z⟩ := HR3.out.facts
  clear hm3
  go_wp2_with fail
  refine (HT3.out _ HR3.out.2.1).mono ?_
  rintro e w4 ⟨rfl, hm4⟩
  have HM4 := Lib.hid (HM3.out.trans hm4)
  have HR4 := Lib.hid (HR0.out.mv HM4.out)
  obtain ⟨a40, a41, a42, a4z⟩ := HR4.out.facts
  clear hm4
  go_wp2_with fail
  refine (HN.out _ HR4.out.2.1).mono ?_
  rintro e w5 ⟨rfl, hm5⟩
  have HM5 := Lib.hid (HM4.out.trans hm5)
  have HR5 := Lib.hid (HR0.out.mv HM5.out)
  obtain ⟨a50, a51, a52, a5z⟩ := HR5.out.facts
  clear hm5
  have hg := (HM5.out.2.2 w.heap.size hsz (by omega)).trans HG0.out
  obtain ⟨⟨c0, c1, c2, c3, c4, c5, c6⟩, ⟨g0, g1, g2, g3, g4, g5, g6⟩, hgz⟩ := cells7 hg
  clear hg
  go_wp2
  refine bodyPost_ret (by simp [results, Tryd.results95, go_sem, c0, c1, c2, c3, c4, c5, c6]; rfl) rfl ⟨by unfold IV; rw [item_no.1, item_no.2.1, item_no.2.2.1, item_no.2.2.2]; rfl, ?_⟩
  exact (Mv.setOther (Mv.setOther (Mv.setOther (Mv.setOther (Mv.setOther (Mv.setOther (Mv.setOther (HMW.out.trans HM5.out) w.heap.size 0 _ (Nat.le_refl _) hcb) w.heap.size 1 _ (Nat.le_refl _) hcb) w.heap.size 2 _ (Nat.le_refl _) hcb) w.heap.size 3 _ (Nat.le_refl _) hcb) w.heap.size 4 _ (Nat.le_refl _) hcb) w.heap.size 5 _ (Nat.le_refl _) hcb) w.heap.size 6 _ (Nat.le_refl _) hcb)
end Go.Proofs.YtopnckfmdjhbjaaDoor
/- A part of a bracket: one byte; a range; a class (gen_part.py). -/
namespace Go.Proofs.YtopnckfmdjhbjaaDoor
open Go.RowKit

theorem cells4 {w : World} {g : Nat} {t : TypeId} {a0 a1 a2 a3 : Value} (h : w.heap[g]? = some (.cells #[a0, a1, a2, a3] t)) :
    (w.cell? ⟨g, 0, none⟩ = some a0 ∧ w.cell? ⟨g, 1, none⟩ = some a1 ∧ w.cell? ⟨g, 2, none⟩ = some a2 ∧ w.cell? ⟨g, 3, none⟩ = some a3) ∧
    (w.frozen? ⟨g, 0, none⟩ = false ∧ w.frozen? ⟨g, 1, none⟩ = false ∧ w.frozen? ⟨g, 2, none⟩ = false ∧ w.frozen? ⟨g, 3, none⟩ = false) ∧ g < w.heap.size := by
  refine ⟨⟨by simp [World.cell?, h], by simp [World.cell?, h], by simp [World.cell?, h], by simp [World.cell?, h]⟩,
    ⟨by simp [World.frozen?, h], by simp [World.frozen?, h], by simp [World.frozen?, h], by simp [World.frozen?, h]⟩, ?_⟩
  rcases Nat.lt_or_ge g w.heap.size with h' | h'
  · exact h'
  · rw [Array.getElem?_eq_none h'] at h; cases h

set_option maxRecDepth 100000 in
set_option maxHeartbeats 8000000 in
theorem part_range (rb cb : Nat) (s : ByteArray) (k ah k1 k2 pl c pl2 d : Nat) (lg : Int) (w : World) (h : Rdr w rb cb s k ah lg) (hc : c < 256) (hd256 : d < 256) (hcd : c ≤ d)
    (hi : ∀ w', Rdr w' rb cb s k ah lg → Calls Tryd.prog 95 #[.pointer (some ⟨rb, 0, none⟩)] w' fun e w'' => e = .returned (.tuple #[IV pl false noP c, .nilIface]) ∧ Mv cb s k1 w' w'')
    (hd : ∀ w', Rdr w' rb cb s k1 ah lg → Calls Tryd.prog 96 #[.pointer (some ⟨rb, 0, none⟩)] w' fun e w'' => e = .returned (.bool true) ∧ Mv cb s (k1 + 1) w' w'')
    (hj : ∀ w', Rdr w' rb cb s (k1 + 1) ah lg → Calls Tryd.prog 95 #[.pointer (some ⟨rb, 0, none⟩)] w' fun e w'' => e = .returned (.tuple #[IV pl2 false noP d, .nilIface]) ∧ Mv cb s k2 w' w'') :
    Calls Tryd.prog 79 #[.pointer (some ⟨rb, 0, none⟩)] w fun e w' => e = .returned (.tuple #[SV (rng c d), .nilIface]) ∧ Mv cb s k2 w w' := by
  have HH := Lib.hid h
  have HI := Lib.hid hi
  have HD := Lib.hid hd
  have HJ := Lib.hid hj
  have HX : ∀ w, Hid (Calls Tryd.prog 97 #[.int .u8 c, .int .u8 d] w fun e w' => e = .returned (SV (rng c d)) ∧ Below w.heap.size w w') := fun w => Lib.hid (range_any c d hc hd256 w)
  clear h hi hd hj
  have hcdI : (c : Int) ≤ d := by omega
  go_enter Tryd.func79, Tryd.ntmps79
  go_wp2_with fail
  obtain ⟨W, hW⟩ : ∃ W, W = w.alloc (.cells #[.int .u64 0, .int .u64 0, .int .u64 0, .int .u64 0] 53) := ⟨_, rfl⟩
  rw [← hW]
  have HMW : Hid (Mv cb s k w W) := Lib.hid (by rw [hW]; exact Mv.below HH.out.2.1 ((Below.refl _ _).alloc (Nat.le_refl _) _))
  have HG0 : Hid (W.heap[w.heap.size]? = some (.cells #[.int .u64 0, .int .u64 0, .int .u64 0, .int .u64 0] 53)) := Lib.hid (by rw [hW]; exact alloc_last w _)
  have hsz : w.heap.size < W.heap.size := by rw [hW]; simp
  clear hW
  have hcb := HH.out.lt.2
  have HR0 := Lib.hid (HH.out.mv HMW.out)
  have HM0 := Lib.hid (Mv.refl HR0.out.2.1)
  refine (HI.out _ HR0.out).mono ?_
  rintro e w1 ⟨rfl, hm1⟩
  have HM1 := Lib.hid (HM0.out.trans hm1)
  have HR1 := Lib.hid (HR0.out.mv HM1.out)
  obtain ⟨a10, a11, a12, a1z⟩ := HR1.out.facts
  clear hm1
  unfold IV
  go_wp2_with fail
  obtain ⟨w2, hV⟩ : ∃ V, V = w1.alloc (.cells #[.int .i64 pl, .bool false, .int .u64 (sw noP 0 : Nat), .int .u64 (sw noP 1 : Nat), .int .u64 (sw noP 2 : Nat), .int .u64 (sw noP 3 : Nat), .int .u8 c] 139) := ⟨_, rfl⟩
  rw [← hV]
  have HA2 := Lib.hid (show Mv cb s _ w1 w2 by rw [hV]; exact Mv.below HR1.out.2.1 ((Below.refl _ _).alloc (Nat.le_refl _) _))
  have HM2 := Lib.hid (HM1.out.trans HA2.out)
  have HBA : Hid (w2.heap[w1.heap.size]? = some (.cells #[.int .i64 pl, .bool false, .int .u64 (sw noP 0 : Nat), .int .u64 (sw noP 1 : Nat), .int .u64 (sw noP 2 : Nat), .int .u64 (sw noP 3 : Nat), .int .u8 c] 139)) := Lib.hid (by rw [hV]; exact alloc_last _ _)
  have hzA : w1.heap.size < w2.heap.size := by rw [hV]; simp
  have hWA : cb < w1.heap.size := HR1.out.lt.2
  clear hV
  have HR2 := Lib.hid (HR0.out.mv HM2.out)
  obtain ⟨a20, a21, a22, a2z⟩ := HR2.out.facts
  have HN2 := Lib.hid (Mv.refl HR2.out.2.1)
  refine (HD.out _ HR2.out).mono ?_
  rintro e w3 ⟨rfl, hm3⟩
  have HM3 := Lib.hid (HM2.out.trans hm3)
  have HR3 := Lib.hid (HR0.out.mv HM3.out)
  have HN3 := Lib.hid (HN2.out.trans hm3)
  obtain ⟨a30, a31, a32, a3z⟩ := HR3.out.facts
  clear hm3
  have hbA := (HN3.out.2.2 w1.heap.size hzA (by omega)).trans HBA.out
  obtain ⟨⟨p0, p1, p2, p3, p4, p5, p6⟩, ⟨pg0, pg1, pg2, pg3, pg4, pg5, pg6⟩, pz⟩ := cells7 hbA
  clear hbA
  go_wp2_with fail
  refine (HJ.out _ HR3.out).mono ?_
  rintro e w4 ⟨rfl, hm4⟩
  have HM4 := Lib.hid (HM3.out.trans hm4)
  have HR4 := Lib.hid (HR0.out.mv HM4.out)
  have HN4 := Lib.hid (HN3.out.trans hm4)
  obtain ⟨a40, a41, a42, a4z⟩ := HR4.out.facts
  clear hm4
  have hbA := (HN4.out.2.2 w1.heap.size hzA (by omega)).trans HBA.out
  obtain ⟨⟨q0, q1, q2, q3, q4, q5, q6⟩, ⟨qg0, qg1, qg2, qg3, qg4, qg5, qg6⟩, qz⟩ := cells7 hbA
  clear hbA
  unfold IV
  go_wp2_with fail
  obtain ⟨w5, hV⟩ : ∃ V, V = w4.alloc (.cells #[.int .i64 pl2, .bool false, .int .u64 (sw noP 0 : Nat), .int .u64 (sw noP 1 : Nat), .int .u64 (sw noP 2 : Nat), .int .u64 (sw noP 3 : Nat), .int .u8 d] 139) := ⟨_, rfl⟩
  rw [← hV]
  have HA5 := Lib.hid (show Mv cb s _ w4 w5 by rw [hV]; exact Mv.below HR4.out.2.1 ((Below.refl _ _).alloc (Nat.le_refl _) _))
  have HM5 := Lib.hid (HM4.out.trans HA5.out)
  have HBB : Hid (w5.heap[w4.heap.size]? = some (.cells #[.int .i64 pl2, .bool false, .int .u64 (sw noP 0 : Nat), .int .u64 (sw noP 1 : Nat), .int .u64 (sw noP 2 : Nat), .int .u64 (sw noP 3 : Nat), .int .u8 d] 139)) := Lib.hid (by rw [hV]; exact alloc_last _ _)
  have hzB : w4.heap.size < w5.heap.size := by rw [hV]; simp
  have hWB : cb < w4.heap.size := HR4.out.lt.2
  clear hV
  have HR5 := Lib.hid (HR0.out.mv HM5.out)
  obtain ⟨a50, a51, a52, a5z⟩ := HR5.out.facts
  have HN5 := Lib.hid (HN4.out.trans HA5.out)
  have HO5 := Lib.hid (Mv.refl HR5.out.2.1)
  have hbA := (HN5.out.2.2 w1.heap.size hzA (by omega)).trans HBA.out
  obtain ⟨⟨r0, r1, r2, r3, r4, r5, r6⟩, ⟨rg0, rg1, rg2, rg3, rg4, rg5, rg6⟩, rz⟩ := cells7 hbA
  clear hbA
  have hbB := (HO5.out.2.2 w4.heap.size hzB (by omega)).trans HBB.out
  obtain ⟨⟨t0, t1, t2, t3, t4, t5, t6⟩, ⟨tg0, tg1, tg2, tg3, tg4, tg5, tg6⟩, tz⟩ := cells7 hbB
  clear hbB
  go_wp2_with fail
  refine (HX _).out.mono ?_
  rintro e w6 ⟨rfl, hb6⟩
  have HM6 := Lib.hid (HM5.out.trans (Mv.below HR5.out.2.1 hb6))
  clear hb6
  have hg := (HM6.out.2.2 w.heap.size hsz (by omega)).trans HG0.out
  obtain ⟨⟨c0, c1, c2, c3⟩, ⟨g0, g1, g2, g3⟩, hgz⟩ := cells4 hg
  clear hg
  unfold SV
  go_wp2
  exact bodyPost_ret (by simp [results, Tryd.results79, go_sem, c0, c1, c2, c3]; rfl) rfl ⟨rfl, (Mv.setOther (Mv.setOther (Mv.setOther (Mv.setOther (HMW.out.trans HM6.out) w.heap.size 0 _ (Nat.le_refl _) hcb) w.heap.size 1 _ (Nat.le_refl _) hcb) w.heap.size 2 _ (Nat.le_refl _) hcb) w.heap.size 3 _ (Nat.le_refl _) hcb)⟩

end Go.Proofs.YtopnckfmdjhbjaaDoor
/- A bracket of one part; Bracket over it. -/
namespace Go.Proofs.YtopnckfmdjhbjaaDoor
open Go.RowKit

theorem row4_blk {w w' : World} {g : Nat} {p : Nat → Bool} (h : Row4 w g 0 p) (hb : w'.heap[g]? = w.heap[g]?) : Row4 w' g 0 p := by
  have k : ∀ o, w'.cell? ⟨g, o, none⟩ = w.cell? ⟨g, o, none⟩ := fun o => World.cell?_of_block hb
  exact ⟨(k _).trans h.1, (k _).trans h.2.1, (k _).trans h.2.2.1, (k _).trans h.2.2.2⟩
set_option maxRecDepth 100000 in
set_option maxHeartbeats 16000000 in
theorem bracket_one (rb cb : Nat) (s : ByteArray) (k k1 ah : Nat) (lg : Int) (p : Nat → Bool) (w : World) (h : Rdr w rb cb s k ah lg) (hlg : ¬ lg = 2) (h1 : ¬ atB s k = 94) (h2 : atB s k1 = 93)
    (hi : ∀ w', Rdr w' rb cb s k ah lg → Calls Tryd.prog 79 #[.pointer (some ⟨rb, 0, none⟩)] w' fun e w'' => e = .returned (.tuple #[SV p, .nilIface]) ∧ Mv cb s k1 w' w'') :
    Calls Tryd.prog 54 #[.pointer (some ⟨rb, 0, none⟩)] w fun e w' => e = .returned (.tuple #[SV (orP noP p), .nilIface]) ∧ Mv cb s (k1 + 1) w w' := by
  have HH := Lib.hid h
  have HI := Lib.hid hi
  have HT1 : Hid (∀ w', Cur w' cb s k → Calls Tryd.prog 78 #[.pointer (some ⟨cb, 0, none⟩), .string ⟨#[94]⟩] w' fun e w'' => e = .returned (.bool false) ∧ Mv cb s k w' w'') := Lib.hid fun w' h' => take1_no cb k s 94 w' h' (by decide) h1
  have HT2 : Hid (∀ w', Cur w' cb s k1 → Calls Tryd.prog 78 #[.pointer (some ⟨cb, 0, none⟩), .string ⟨#[93]⟩] w' fun e w'' => e = .returned (.bool true) ∧ Mv cb s (k1 + 1) w' w'') := Lib.hid fun w' h' => take1_yes cb k1 s 93 w' h' (by decide) h2
  clear h hi h1 h2
  go_enter Tryd.func54, Tryd.ntmps54
  obtain ⟨r0, r1, r2, rz⟩ := HH.out.facts
  go_wp2_with fail
  obtain ⟨W, hW⟩ : ∃ W, W = w.alloc (.cells #[.int .u64 0, .int .u64 0, .int .u64 0, .int .u64 0] 53) := ⟨_, rfl⟩
  rw [← hW]
  have HMW : Hid (Mv cb s k w W) := Lib.hid (by rw [hW]; exact Mv.below HH.out.2.1 ((Below.refl _ _).alloc (Nat.le_refl _) _))
  have HG0 : Hid (W.heap[w.heap.size]? = some (.cells #[.int .u64 0, .int .u64 0, .int .u64 0, .int .u64 0] 53)) := Lib.hid (by rw [hW]; exact alloc_last w _)
  have hsz : w.heap.size < W.heap.size := by rw [hW]; simp
  clear hW r0 r1 r2 rz
  have hcb := HH.out.lt.2
  have HR0 := Lib.hid (HH.out.mv HMW.out)
  refine (HT1.out _ HR0.out.2.1).mono ?_
  rintro e w1 ⟨rfl, hm1⟩
  have HM1 := Lib.hid hm1
  have HR1 := Lib.hid (HR0.out.mv hm1)
  obtain ⟨a10, a11, a12, a1z⟩ := HR1.out.facts
  clear hm1
  go_wp2
  refine wp_loop_rounds 2 ?_
  rw [rounds_succ]
  go_wp2_with fail
  obtain ⟨w2, hV⟩ : ∃ V, V = w1.alloc (.cells #[.int .u64 0, .int .u64 0, .int .u64 0, .int .u64 0] 53) := ⟨_, rfl⟩
  rw [← hV]
  have HB2 : Hid (Mv cb s k w1 w2) := Lib.hid (by rw [hV]; exact Mv.below HR1.out.2.1 ((Below.refl _ _).alloc (Nat.le_refl _) _))
  have HS2 : Hid (w2.heap[w1.heap.size]? = some (.cells #[.int .u64 (sw noP 0 : Nat), .int .u64 (sw noP 1 : Nat), .int .u64 (sw noP 2 : Nat), .int .u64 (sw noP 3 : Nat)] 53)) := Lib.hid (by rw [hV, item_no.1, item_no.2.1, item_no.2.2.1, item_no.2.2.2]; exact alloc_last w1 _)
  have hz2 : w1.heap.size < w2.heap.size := by rw [hV]; simp
  have hc1 := HR1.out.lt.2
  have hr1 := HR1.out.lt.1
  clear hV
  have HR2 := Lib.hid (HR1.out.mv HB2.out)
  refine (HI.out _ HR2.out).mono ?_
  rintro e w3 ⟨rfl, hm3⟩
  have HB3 := Lib.hid (HB2.out.trans hm3)
  have HR3 := Lib.hid (HR1.out.mv HB3.out)
  have HS3 : Hid (w3.heap[w1.heap.size]? = some (.cells #[.int .u64 (sw noP 0 : Nat), .int .u64 (sw noP 1 : Nat), .int .u64 (sw noP 2 : Nat), .int .u64 (sw noP 3 : Nat)] 53)) := Lib.hid ((hm3.2.2 _ hz2 (by omega)).trans HS2.out)
  obtain ⟨⟨s0, s1, s2, s3⟩, ⟨f0, f1, f2, f3⟩, fz⟩ := cells4 HS3.out
  clear hm3
  unfold SV
  go_wp2_with fail
  have HU := Lib.hid (unionL (w3.alloc (.cells #[.int .u64 (sw p 0 : Nat), .int .u64 (sw p 1 : Nat), .int .u64 (sw p 2 : Nat), .int .u64 (sw p 3 : Nat)] 53)) noP p 53)
  simp only [World.size_alloc] at HU
  refine HU.out.mono ?_
  rintro e w5 ⟨rfl, hb5⟩
  have HL5 : Hid (Below w3.heap.size w3 w5) := Lib.hid (((Below.refl _ _).alloc (Nat.le_refl _) _).trans (hb5.mono (Nat.le_succ _)))
  have HB5 := Lib.hid (HB3.out.trans (Mv.below HR3.out.2.1 HL5.out))
  have HS5 : Hid (w5.heap[w1.heap.size]? = some (.cells #[.int .u64 (sw noP 0 : Nat), .int .u64 (sw noP 1 : Nat), .int .u64 (sw noP 2 : Nat), .int .u64 (sw noP 3 : Nat)] 53)) := Lib.hid ((HL5.out.block _ fz).trans HS3.out)
  obtain ⟨⟨t0, t1, t2, t3⟩, ⟨u0, u1, u2, u3⟩, uz⟩ := cells4 HS5.out
  clear hb5 HU
  unfold SV
  go_wp2_with fail
  obtain ⟨w6, hV⟩ : ∃ V, V = ((((w5.setCell ⟨w1.heap.size, 0, none⟩ (.int .u64 (sw (orP noP p) 0 : Nat))).setCell ⟨w1.heap.size, 1, none⟩ (.int .u64 (sw (orP noP p) 1 : Nat))).setCell ⟨w1.heap.size, 2, none⟩ (.int .u64 (sw (orP noP p) 2 : Nat))).setCell ⟨w1.heap.size, 3, none⟩ (.int .u64 (sw (orP noP p) 3 : Nat))) := ⟨_, rfl⟩
  rw [← hV]
  have HB6 : Hid (Mv cb s k1 w1 w6) := Lib.hid (by rw [hV]; exact (Mv.setOther (Mv.setOther (Mv.setOther (Mv.setOther HB5.out w1.heap.size 0 _ (Nat.le_refl _) hc1) w1.heap.size 1 _ (Nat.le_refl _) hc1) w1.heap.size 2 _ (Nat.le_refl _) hc1) w1.heap.size 3 _ (Nat.le_refl _) hc1))
  have hz6 : w1.heap.size < w6.heap.size := by rw [hV]; simpa using uz
  have HS6 : Hid (Row4 w6 w1.heap.size 0 (orP noP p)) := Lib.hid (by rw [hV]; exact row4_put _ ⟨t0, t1, t2, t3⟩)
  clear hV
  have HR6 := Lib.hid (HR1.out.mv HB6.out)
  obtain ⟨a60, a61, a62, a6z⟩ := HR6.out.facts
  go_wp2_with fail
  rw [rounds_succ]
  go_wp2_with fail
  refine (HT2.out _ HR6.out.2.1).mono ?_
  rintro e w7 ⟨rfl, hm7⟩
  have HB7 := Lib.hid (HB6.out.trans hm7)
  have HS7 : Hid (Row4 w7 w1.heap.size 0 (orP noP p)) := Lib.hid (row4_blk HS6.out (hm7.2.2 w1.heap.size hz6 (by omega)))
  obtain ⟨x0, x1', x2', x3'⟩ := HS7.out
  have x1 : w7.cell? ⟨w1.heap.size, 1, none⟩ = some (.int .u64 (sw (orP noP p) 1 : Nat)) := x1'
  have x2 : w7.cell? ⟨w1.heap.size, 2, none⟩ = some (.int .u64 (sw (orP noP p) 2 : Nat)) := x2'
  have x3 : w7.cell? ⟨w1.heap.size, 3, none⟩ = some (.int .u64 (sw (orP noP p) 3 : Nat)) := x3'
  have hg := ((HM1.out.trans HB7.out).2.2 w.heap.size hsz (by omega)).trans HG0.out
  obtain ⟨⟨c0, c1, c2, c3⟩, ⟨g0, g1, g2, g3⟩, hgz⟩ := cells4 hg
  clear hm7 hg x1' x2' x3' a60 a61 a62 a6z t0 t1 t2 t3 u0 u1 u2 u3 s0 s1 s2 s3 f0 f1 f2 f3 a10 a11 a12 a1z
  go_wp2
  exact bodyPost_ret (by simp [results, Tryd.results54, go_sem, c0, c1, c2, c3]; rfl) rfl ⟨rfl, (Mv.setOther (Mv.setOther (Mv.setOther (Mv.setOther (HMW.out.trans (HM1.out.trans HB7.out)) w.heap.size 0 _ (Nat.le_refl _) hcb) w.heap.size 1 _ (Nat.le_refl _) hcb) w.heap.size 2 _ (Nat.le_refl _) hcb) w.heap.size 3 _ (Nat.le_refl _) hcb)⟩
end Go.Proofs.YtopnckfmdjhbjaaDoor
/- Bracket from the first place, where its reader tells a set. -/
namespace Go.Proofs.YtopnckfmdjhbjaaDoor
open Go.RowKit

theorem hasB_any (lg : Int) (w : World) (h : lg = 2 ∨ lg = 3 ∨ lg = 4) :
    Calls Tryd.prog 51 #[.int .i64 lg] w fun e w' => e = .returned (.bool true) ∧ w = w' := by
  rcases h with rfl | rfl | rfl
  all_goals
    go_enter Tryd.func51, Tryd.ntmps51
    go_wp2
    go_ret
    exact ⟨rfl, rfl⟩

set_option maxRecDepth 100000 in
set_option maxHeartbeats 16000000 in
theorem bkt_ok (x o n cap : Nat) (l : List Int) (lg : Int) (q : Nat → Bool) (k : Nat) (w : World) (hs : Sl w (.slice (some ⟨x, o, none⟩) n cap) l) (hn : n = l.length) (hlg : lg = 2 ∨ lg = 3 ∨ lg = 4)
    (hb : ∀ w' rb cb, Rdr w' rb cb (ofBys l) 0 0 lg → Calls Tryd.prog 54 #[.pointer (some ⟨rb, 0, none⟩)] w' fun e w'' => e = .returned (.tuple #[SV q, .nilIface]) ∧ Mv cb (ofBys l) k w' w'') :
    Calls Tryd.prog 29 #[.slice (some ⟨x, o, none⟩) n cap, .int .i64 0, .int .i64 lg] w fun e w' => e = .returned (.tuple #[SV q, .int .i64 k, .nilIface]) ∧ Below w.heap.size w w' := by
  have hlen := hs.2.1
  have HS := Lib.hid hs
  have HBK := Lib.hid hb
  have HN := Lib.hid hn
  have HH : ∀ w, Hid (Calls Tryd.prog 51 #[.int .i64 lg] w fun e w' => e = .returned (.bool true) ∧ w = w') := fun w => Lib.hid (hasB_any lg w hlg)
  have hnI : (n : Int) ≤ 9223372036854775807 := by omega
  have hn0 : (0 : Int) ≤ n := by omega
  clear hs hb hlg hn
  go_enter Tryd.func29, Tryd.ntmps29
  go_wp2_with fail
  refine (HH _).out.mono ?_
  rintro e w' ⟨rfl, rfl⟩
  go_wp2_with fail
  have HSA : Hid (Sl ((w.alloc (.cells #[.int .u64 0, .int .u64 0, .int .u64 0, .int .u64 0] 53)).alloc (.cells #[.pointer none, .int .i64 0, .int .i64 lg] 89)) (.slice (some ⟨x, o, none⟩) n cap) l) :=
    Lib.hid (HS.out.below (((Below.refl _ _).alloc (Nat.le_refl _) _).alloc (by simp) _))
  refine (cnew_any _ l _ HSA.out).mono ?_
  rintro e w' ⟨rfl, rfl⟩
  go_wp2_with fail
  obtain ⟨V, hV⟩ : ∃ V, V = ((w.alloc (.cells #[.int .u64 0, .int .u64 0, .int .u64 0, .int .u64 0] 53)).alloc (.cells #[.pointer (some ⟨w.heap.size + 1 + 1, 0, none⟩), .int .i64 0, .int .i64 lg] 89)).alloc (.cells #[.string (ofBys l), .int .i64 0] 124) := ⟨_, rfl⟩
  rw [← hV]
  have HR : Hid (Rdr V (w.heap.size + 1) (w.heap.size + 1 + 1) (ofBys l) 0 0 lg) := by
    rw [hV]
    refine Lib.hid ⟨?_, ⟨?_, by simp, by rw [ofBys_size]; exact hlen⟩, by omega, by rw [ofBys_size]; omega⟩
    · rw [Below.heap_alloc _ _ _ (by simp)]
      have := alloc_last (w.alloc (.cells #[.int .u64 0, .int .u64 0, .int .u64 0, .int .u64 0] 53)) (.cells #[.pointer (some ⟨w.heap.size + 1 + 1, 0, none⟩), .int .i64 0, .int .i64 lg] 89)
      simpa using this
    · have := alloc_last ((w.alloc (.cells #[.int .u64 0, .int .u64 0, .int .u64 0, .int .u64 0] 53)).alloc (.cells #[.pointer (some ⟨w.heap.size + 1 + 1, 0, none⟩), .int .i64 0, .int .i64 lg] 89)) (.cells #[.string (ofBys l), .int .i64 0] 124)
      simpa using this
  have HBV : Hid (Below (w.heap.size + 1) (w.alloc (.cells #[.int .u64 0, .int .u64 0, .int .u64 0, .int .u64 0] 53)) V) := by
    rw [hV]
    exact Lib.hid (((Below.refl _ _).alloc (by simp) _).alloc (by simp) _)
  have hvz : V.heap.size = w.heap.size + 1 + 1 + 1 := by rw [hV]; simp
  clear hV
  refine (HBK.out _ _ _ HR.out).mono ?_
  rintro e w1 ⟨rfl, hm1⟩
  have HM1 := Lib.hid hm1
  have HR1 := Lib.hid (HR.out.mv hm1)
  have HB1 : Hid (Below (w.heap.size + 1) (w.alloc (.cells #[.int .u64 0, .int .u64 0, .int .u64 0, .int .u64 0] 53)) w1) := Lib.hid (HBV.out.trans (hm1.1.mono (by omega)))
  have hw1z : w.heap.size + 1 + 1 < w1.heap.size := HR1.out.lt.2
  obtain ⟨a10, a11, a12, a1z⟩ := HR1.out.facts
  clear hm1
  unfold SV
  go_wp2_with fail
  obtain ⟨w2, hV⟩ : ∃ V, V = w1.alloc (.cells #[.int .u64 (sw q 0 : Nat), .int .u64 (sw q 1 : Nat), .int .u64 (sw q 2 : Nat), .int .u64 (sw q 3 : Nat)] 53) := ⟨_, rfl⟩
  rw [← hV]
  have HA2 : Hid (Below w1.heap.size w1 w2.drew) := Lib.hid (by rw [hV]; exact ((Below.refl _ _).alloc (Nat.le_refl _) _).drew)
  have HG2 : Hid (w2.drew.heap[w1.heap.size]? = some (.cells #[.int .u64 (sw q 0 : Nat), .int .u64 (sw q 1 : Nat), .int .u64 (sw q 2 : Nat), .int .u64 (sw q 3 : Nat)] 53)) := Lib.hid (by rw [hV]; exact alloc_last w1 _)
  have hz2 : w1.heap.size < w2.drew.heap.size := by rw [hV]; simp
  have HG2' : Hid (w2.heap[w1.heap.size]? = some (.cells #[.int .u64 (sw q 0 : Nat), .int .u64 (sw q 1 : Nat), .int .u64 (sw q 2 : Nat), .int .u64 (sw q 3 : Nat)] 53)) := Lib.hid HG2.out
  obtain ⟨⟨z0, z1, z2, z3⟩, _, _⟩ := cells4 HG2'.out
  clear hV
  have HR2 := Lib.hid (HR1.out.mv (Mv.below HR1.out.2.1 HA2.out))
  have HB2 := Lib.hid (HB1.out.trans (HA2.out.mono (by omega)))
  have HPL : Hid (∀ w', Rdr w' (w.heap.size + 1) (w.heap.size + 1 + 1) (ofBys l) k 0 lg → Calls Tryd.prog 55 #[.pointer (some ⟨w.heap.size + 1, 0, none⟩)] w' fun e w'' => e = .returned (.int .i64 k) ∧ Mv (w.heap.size + 1 + 1) (ofBys l) k w' w'') := Lib.hid fun w' h' => (place_any _ _ _ k 0 lg w' h').mono fun _ _ h => ⟨by rw [h.1, Nat.zero_add], h.2⟩
  go_region_with (first
    | (go_at_call 55; refine (HPL.out _ HR2.out).mono ?_; rintro e w3 ⟨rfl, hm3⟩; have HB3 := Lib.hid (HB2.out.trans (hm3.1.mono (Nat.le_succ _))); have hg3 := (hm3.2.2 w1.heap.size hz2 (by omega)).trans HG2.out; obtain ⟨⟨y0, y1, y2, y3⟩, _, _⟩ := cells4 hg3; obtain ⟨c0, c1, c2, c3, g0, g1, g2, g3, hz⟩ := res_facts HB3.out (Nat.lt_succ_self _); clear hg3 hm3))
  all_goals
    go_wp2
    exact bodyPost_ret (by simp [results, Tryd.results29, go_sem, c0, c1, c2, c3]; rfl) rfl ⟨rfl, res_below HB3.out _ _ _ _⟩
end Go.Proofs.YtopnckfmdjhbjaaDoor
