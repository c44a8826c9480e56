/- A byte as an item; a part of one byte, and of a range. -/
import Derived.Test.YtopnckfmdjhbjaaDoorSeRdr
namespace Go.Proofs.YtopnckfmdjhbjaaDoor
open Go.RowKit

/-- An item's value: its place, whether it is a class, the class's words, the byte. -/
def IV (pl : Nat) (cl : Bool) (p : Nat → Bool) (b : Int) : Value := .agg #[.int .i64 pl, .bool cl, .int .u64 (sw p 0 : Nat), .int .u64 (sw p 1 : Nat), .int .u64 (sw p 2 : Nat), .int .u64 (sw p 3 : Nat), .int .u8 b]

theorem item_no : ((sw noP 0 : Nat) : Int) = 0 ∧ ((sw noP 1 : Nat) : Int) = 0 ∧ ((sw noP 2 : Nat) : Int) = 0 ∧ ((sw noP 3 : Nat) : Int) = 0 := ⟨sw_zero 0, sw_zero 1, sw_zero 2, sw_zero 3⟩
theorem alloc_last (w : World) (o : Obj) : (w.alloc o).heap[w.heap.size]? = some o := by
  show (w.heap.push _)[w.heap.size]? = _
  simp
/-- A block of seven cells, as it stands. -/
theorem cells7 {w : World} {g : Nat} {t : TypeId} {a0 a1 a2 a3 a4 a5 a6 : Value} (h : w.heap[g]? = some (.cells #[a0, a1, a2, a3, a4, a5, a6] t)) :
    (w.cell? ⟨g, 0, none⟩ = some a0 ∧ w.cell? ⟨g, 1, none⟩ = some a1 ∧ w.cell? ⟨g, 2, none⟩ = some a2 ∧ w.cell? ⟨g, 3, none⟩ = some a3 ∧ w.cell? ⟨g, 4, none⟩ = some a4 ∧ w.cell? ⟨g, 5, none⟩ = some a5 ∧ w.cell? ⟨g, 6, none⟩ = some a6) ∧
    (w.frozen? ⟨g, 0, none⟩ = false ∧ w.frozen? ⟨g, 1, none⟩ = false ∧ w.frozen? ⟨g, 2, none⟩ = false ∧ w.frozen? ⟨g, 3, none⟩ = false ∧ w.frozen? ⟨g, 4, none⟩ = false ∧ w.frozen? ⟨g, 5, none⟩ = false ∧ w.frozen? ⟨g, 6, none⟩ = false) ∧ g < w.heap.size := by
  refine ⟨⟨by simp [World.cell?, h], by simp [World.cell?, h], by simp [World.cell?, h], by simp [World.cell?, h], by simp [World.cell?, h], by simp [World.cell?, h], by simp [World.cell?, h]⟩,
    ⟨by simp [World.frozen?, h], by simp [World.frozen?, h], by simp [World.frozen?, h], by simp [World.frozen?, h], by simp [World.frozen?, h], by simp [World.frozen?, h], by simp [World.frozen?, h]⟩, ?_⟩
  rcases Nat.lt_or_ge g w.heap.size with h' | h'
  · exact h'
  · rw [Array.getElem?_eq_none h'] at h; cases h
theorem Mv.setOther {w w' : World} {b k : Nat} {s : ByteArray} (h : Mv b s k w w') (g i : Nat) (v : Value) (hg : w.heap.size ≤ g) (hb : b < w.heap.size) : Mv b s k w (w'.setCell ⟨g, i, none⟩ v) := by
  have hne : ∀ j, j < w.heap.size → (w'.setCell ⟨g, i, none⟩ v).heap[j]? = w'.heap[j]? := fun j hj => Below.heap_setCell _ _ _ _ (by simp; omega)
  exact ⟨h.1.setCell (by simp; omega) _, ⟨(hne b hb).trans h.2.1.1, h.2.1.2⟩, fun j hj hjb => (hne j hj).trans (h.2.2 j hj hjb)⟩

set_option maxRecDepth 100000 in
set_option maxHeartbeats 8000000 in
theorem item_byte (rb cb : Nat) (s : ByteArray) (k ah : Nat) (lg : Int) (w : World) (h : Rdr w rb cb s k ah lg) (hlg : ¬ lg = 2) (hk : k < s.size) (h1 : ¬ atB s k = 91) :
    Calls Tryd.prog 95 #[.pointer (some ⟨rb, 0, none⟩)] w fun e w' => e = .returned (.tuple #[IV (ah + k) false noP (atB s k), .nilIface]) ∧ Mv cb s (k + 1) w w' := by
  have HH := Lib.hid h
  have HP : Hid (∀ w', Rdr w' rb cb s k ah lg → Calls Tryd.prog 55 #[.pointer (some ⟨rb, 0, none⟩)] w' fun e w'' => e = .returned (.int .i64 (ah + k : Nat)) ∧ Mv cb s k w' w'') := Lib.hid fun w' h' => place_any rb cb s k ah lg w' h'
  have HT1 : Hid (∀ w', Cur w' cb s k → Calls Tryd.prog 78 #[.pointer (some ⟨cb, 0, none⟩), .string ⟨#[91, 58]⟩] w' fun e w'' => e = .returned (.bool false) ∧ Mv cb s k w' w'') := Lib.hid fun w' h' => take2_no cb k s 91 58 w' h' (by decide) (by decide) (fun h => h1 h.1)
  have HT2 : Hid (∀ w', Cur w' cb s k → Calls Tryd.prog 78 #[.pointer (some ⟨cb, 0, none⟩), .string ⟨#[91, 46]⟩] w' fun e w'' => e = .returned (.bool false) ∧ Mv cb s k w' w'') := Lib.hid fun w' h' => take2_no cb k s 91 46 w' h' (by decide) (by decide) (fun h => h1 h.1)
  have HT3 : Hid (∀ w', Cur w' cb s k → Calls Tryd.prog 78 #[.pointer (some ⟨cb, 0, none⟩), .string ⟨#[91, 61]⟩] w' fun e w'' => e = .returned (.bool false) ∧ Mv cb s k w' w'') := Lib.hid fun w' h' => take2_no cb k s 91 61 w' h' (by decide) (by decide) (fun h => h1 h.1)
  have HN : Hid (∀ w', Cur w' cb s k → Calls Tryd.prog 119 #[.pointer (some ⟨cb, 0, none⟩)] w' fun e w'' => e = .returned (.tuple #[.int .u8 (atB s k), .bool true]) ∧ Mv cb s (k + 1) w' w'') := Lib.hid fun w' h' => by
    have := next_any cb k s w' h'
    rw [if_pos hk, decide_eq_true hk] at this
    exact this
  clear h h1
  generalize atB s k = c at *
  go_enter Tryd.func95, Tryd.ntmps95
  go_wp2_with fail
  obtain ⟨W, hW⟩ : ∃ W, W = w.alloc (.cells #[.int .i64 0, .bool false, .int .u64 0, .int .u64 0, .int .u64 0, .int .u64 0, .int .u8 0] 139) := ⟨_, rfl⟩
  rw [← hW]
  have HMW : Hid (Mv cb s k w W) := Lib.hid (by rw [hW]; exact Mv.below HH.out.2.1 ((Below.refl _ _).alloc (Nat.le_refl _) _))
  have HG0 : Hid (W.heap[w.heap.size]? = some (.cells #[.int .i64 0, .bool false, .int .u64 0, .int .u64 0, .int .u64 0, .int .u64 0, .int .u8 0] 139)) := Lib.hid (by rw [hW]; exact alloc_last w _)
  have hsz : w.heap.size < W.heap.size := by rw [hW]; simp
  clear hW
  have hcb := HH.out.lt.2
  have HR0 := Lib.hid (HH.out.mv HMW.out)
  have HM0 := Lib.hid (Mv.refl HR0.out.2.1)
  refine (HP.out _ HR0.out).mono ?_
  rintro e w1 ⟨rfl, hm1⟩
  have HM1 := Lib.hid (HM0.out.trans hm1)
  have HR1 := Lib.hid (HR0.out.mv HM1.out)
  obtain ⟨a10, a11, a12, a1z⟩ := HR1.out.facts
  clear hm1
  go_wp2_with fail
  refine (HT1.out _ HR1.out.2.1).mono ?_
  rintro e w2 ⟨rfl, hm2⟩
  have HM2 := Lib.hid (HM1.out.trans hm2)
  have HR2 := Lib.hid (HR0.out.mv HM2.out)
  obtain ⟨a20, a21, a22, a2z⟩ := HR2.out.facts
  clear hm2
  go_wp2_with fail
  refine (HT2.out _ HR2.out.2.1).mono ?_
  rintro e w3 ⟨rfl, hm3⟩
  have HM3 := Lib.hid (HM2.out.trans hm3)
  have HR3 := Lib.hid (HR0.out.mv HM3.out)
  obtain ⟨a30, a31, a32, a3z⟩ := HR3.out.facts
  clear hm3
  go_wp2_with fail
  refine (HT3.out _ HR3.out.2.1).mono ?_
  rintro e w4 ⟨rfl, hm4⟩
  have HM4 := Lib.hid (HM3.out.trans hm4)
  have HR4 := Lib.hid (HR0.out.mv HM4.out)
  obtain ⟨a40, a41, a42, a4z⟩ := HR4.out.facts
  clear hm4
  go_wp2_with fail
  refine (HN.out _ HR4.out.2.1).mono ?_
  rintro e w5 ⟨rfl, hm5⟩
  have HM5 := Lib.hid (HM4.out.trans hm5)
  have HR5 := Lib.hid (HR0.out.mv HM5.out)
  obtain ⟨a50, a51, a52, a5z⟩ := HR5.out.facts
  clear hm5
  have hg := (HM5.out.2.2 w.heap.size hsz (by omega)).trans HG0.out
  obtain ⟨⟨c0, c1, c2, c3, c4, c5, c6⟩, ⟨g0, g1, g2, g3, g4, g5, g6⟩, hgz⟩ := cells7 hg
  clear hg
  go_wp2
  refine bodyPost_ret (by simp [results, Tryd.results95, go_sem, c0, c1, c2, c3, c4, c5, c6]; rfl) rfl ⟨by unfold IV; rw [item_no.1, item_no.2.1, item_no.2.2.1, item_no.2.2.2]; rfl, ?_⟩
  exact (Mv.setOther (Mv.setOther (Mv.setOther (Mv.setOther (Mv.setOther (Mv.setOther (Mv.setOther (HMW.out.trans HM5.out) w.heap.size 0 _ (Nat.le_refl _) hcb) w.heap.size 1 _ (Nat.le_refl _) hcb) w.heap.size 2 _ (Nat.le_refl _) hcb) w.heap.size 3 _ (Nat.le_refl _) hcb) w.heap.size 4 _ (Nat.le_refl _) hcb) w.heap.size 5 _ (Nat.le_refl _) hcb) w.heap.size 6 _ (Nat.le_refl _) hcb)
set_option maxRecDepth 100000 in
set_option maxHeartbeats 8000000 in
theorem item_glob (rb cb : Nat) (s : ByteArray) (k ah : Nat) (lg : Int) (w : World) (h : Rdr w rb cb s k ah lg) (hlg : lg = 2) (hk : k < s.size) (h1 : ¬ atB s k = 91) (h2 : ¬ atB s k = 92) :
    Calls Tryd.prog 95 #[.pointer (some ⟨rb, 0, none⟩)] w fun e w' => e = .returned (.tuple #[IV (ah + k) false noP (atB s k), .nilIface]) ∧ Mv cb s (k + 1) w w' := by
  have HH := Lib.hid h
  have HP : Hid (∀ w', Rdr w' rb cb s k ah lg → Calls Tryd.prog 55 #[.pointer (some ⟨rb, 0, none⟩)] w' fun e w'' => e = .returned (.int .i64 (ah + k : Nat)) ∧ Mv cb s k w' w'') := Lib.hid fun w' h' => place_any rb cb s k ah lg w' h'
  have HT1 : Hid (∀ w', Cur w' cb s k → Calls Tryd.prog 78 #[.pointer (some ⟨cb, 0, none⟩), .string ⟨#[91, 58]⟩] w' fun e w'' => e = .returned (.bool false) ∧ Mv cb s k w' w'') := Lib.hid fun w' h' => take2_no cb k s 91 58 w' h' (by decide) (by decide) (fun h => h1 h.1)
  have HT2 : Hid (∀ w', Cur w' cb s k → Calls Tryd.prog 78 #[.pointer (some ⟨cb, 0, none⟩), .string ⟨#[91, 46]⟩] w' fun e w'' => e = .returned (.bool false) ∧ Mv cb s k w' w'') := Lib.hid fun w' h' => take2_no cb k s 91 46 w' h' (by decide) (by decide) (fun h => h1 h.1)
  have HT3 : Hid (∀ w', Cur w' cb s k → Calls Tryd.prog 78 #[.pointer (some ⟨cb, 0, none⟩), .string ⟨#[91, 61]⟩] w' fun e w'' => e = .returned (.bool false) ∧ Mv cb s k w' w'') := Lib.hid fun w' h' => take2_no cb k s 91 61 w' h' (by decide) (by decide) (fun h => h1 h.1)
  have HT4 : Hid (∀ w', Cur w' cb s k → Calls Tryd.prog 78 #[.pointer (some ⟨cb, 0, none⟩), .string ⟨#[92]⟩] w' fun e w'' => e = .returned (.bool false) ∧ Mv cb s k w' w'') := Lib.hid fun w' h' => take1_no cb k s 92 w' h' (by decide) h2
  have HN : Hid (∀ w', Cur w' cb s k → Calls Tryd.prog 119 #[.pointer (some ⟨cb, 0, none⟩)] w' fun e w'' => e = .returned (.tuple #[.int .u8 (atB s k), .bool true]) ∧ Mv cb s (k + 1) w' w'') := Lib.hid fun w' h' => by
    have := next_any cb k s w' h'
    rw [if_pos hk, decide_eq_true hk] at this
    exact this
  clear h h1 h2
  generalize atB s k = c at *
  go_enter Tryd.func95, Tryd.ntmps95
  go_wp2_with fail
  obtain ⟨W, hW⟩ : ∃ W, W = w.alloc (.cells #[.int .i64 0, .bool false, .int .u64 0, .int .u64 0, .int .u64 0, .int .u64 0, .int .u8 0] 139) := ⟨_, rfl⟩
  rw [← hW]
  have HMW : Hid (Mv cb s k w W) := Lib.hid (by rw [hW]; exact Mv.below HH.out.2.1 ((Below.refl _ _).alloc (Nat.le_refl _) _))
  have HG0 : Hid (W.heap[w.heap.size]? = some (.cells #[.int .i64 0, .bool false, .int .u64 0, .int .u64 0, .int .u64 0, .int .u64 0, .int .u8 0] 139)) := Lib.hid (by rw [hW]; exact alloc_last w _)
  have hsz : w.heap.size < W.heap.size := by rw [hW]; simp
  clear hW
  have hcb := HH.out.lt.2
  have HR0 := Lib.hid (HH.out.mv HMW.out)
  have HM0 := Lib.hid (Mv.refl HR0.out.2.1)
  refine (HP.out _ HR0.out).mono ?_
  rintro e w1 ⟨rfl, hm1⟩
  have HM1 := Lib.hid (HM0.out.trans hm1)
  have HR1 := Lib.hid (HR0.out.mv HM1.out)
  obtain ⟨a10, a11, a12, a1z⟩ := HR1.out.facts
  clear hm1
  go_wp2_with fail
  refine (HT1.out _ HR1.out.2.1).mono ?_
  rintro e w2 ⟨rfl, hm2⟩
  have HM2 := Lib.hid (HM1.out.trans hm2)
  have HR2 := Lib.hid (HR0.out.mv HM2.out)
  obtain ⟨a20, a21, a22, a2z⟩ := HR2.out.facts
  clear hm2
  go_wp2_with fail
  refine (HT2.out _ HR2.out.2.1).mono ?_
  rintro e w3 ⟨rfl, hm3⟩
  have HM3 := Lib.hid (HM2.out.trans hm3)
  have HR3 := Lib.hid (HR0.out.mv HM3.out)
  obtain ⟨a30, a31, a32, a3z⟩ := HR3.out.facts
  clear hm3
  go_wp2_with fail
  refine (HT3.out _ HR3.out.2.1).mono ?_
  rintro e w4 ⟨rfl, hm4⟩
  have HM4 := Lib.hid (HM3.out.trans hm4)
  have HR4 := Lib.hid (HR0.out.mv HM4.out)
  obtain ⟨a40, a41, a42, a4z⟩ := HR4.out.facts
  clear hm4
  go_wp2_with fail
  refine (HT4.out _ HR4.out.2.1).mono ?_
  rintro e w5 ⟨rfl, hm5⟩
  have HM5 := Lib.hid (HM4.out.trans hm5)
  have HR5 := Lib.hid (HR0.out.mv HM5.out)
  obtain ⟨a50, a51, a52, a5z⟩ := HR5.out.facts
  clear hm5
  go_wp2_with fail
  refine (HN.out _ HR5.out.2.1).mono ?_
  rintro e w6 ⟨rfl, hm6⟩
  have HM6 := Lib.hid (HM5.out.trans hm6)
  have HR6 := Lib.hid (HR0.out.mv HM6.out)
  obtain ⟨a60, a61, a62, a6z⟩ := HR6.out.facts
  clear hm6
  have hg := (HM6.out.2.2 w.heap.size hsz (by omega)).trans HG0.out
  obtain ⟨⟨c0, c1, c2, c3, c4, c5, c6⟩, ⟨g0, g1, g2, g3, g4, g5, g6⟩, hgz⟩ := cells7 hg
  clear hg
  go_wp2
  refine bodyPost_ret (by simp [results, Tryd.results95, go_sem, c0, c1, c2, c3, c4, c5, c6]; rfl) rfl ⟨by unfold IV; rw [item_no.1, item_no.2.1, item_no.2.2.1, item_no.2.2.2]; rfl, ?_⟩
  exact (Mv.setOther (Mv.setOther (Mv.setOther (Mv.setOther (Mv.setOther (Mv.setOther (Mv.setOther (HMW.out.trans HM6.out) w.heap.size 0 _ (Nat.le_refl _) hcb) w.heap.size 1 _ (Nat.le_refl _) hcb) w.heap.size 2 _ (Nat.le_refl _) hcb) w.heap.size 3 _ (Nat.le_refl _) hcb) w.heap.size 4 _ (Nat.le_refl _) hcb) w.heap.size 5 _ (Nat.le_refl _) hcb) w.heap.size 6 _ (Nat.le_refl _) hcb)
set_option maxRecDepth 100000 in
set_option maxHeartbeats 8000000 in
theorem item_esc (rb cb : Nat) (s : ByteArray) (k ah : Nat) (lg : Int) (w : World) (h : Rdr w rb cb s k ah lg) (hlg : lg = 2) (hk : k + 1 < s.size) (h1 : atB s k = 92) :
    Calls Tryd.prog 95 #[.pointer (some ⟨rb, 0, none⟩)] w fun e w' => e = .returned (.tuple #[IV (ah + k) false noP (atB s (k + 1)), .nilIface]) ∧ Mv cb s ((k + 1) + 1) w w' := by
  have h91 : ¬ atB s k = 91 := by rw [h1]; decide
  have HH := Lib.hid h
  have HP : Hid (∀ w', Rdr w' rb cb s k ah lg → Calls Tryd.prog 55 #[.pointer (some ⟨rb, 0, none⟩)] w' fun e w'' => e = .returned (.int .i64 (ah + k : Nat)) ∧ Mv cb s k w' w'') := Lib.hid fun w' h' => place_any rb cb s k ah lg w' h'
  have HT1 : Hid (∀ w', Cur w' cb s k → Calls Tryd.prog 78 #[.pointer (some ⟨cb, 0, none⟩), .string ⟨#[91, 58]⟩] w' fun e w'' => e = .returned (.bool false) ∧ Mv cb s k w' w'') := Lib.hid fun w' h' => take2_no cb k s 91 58 w' h' (by decide) (by decide) (fun h => h91 h.1)
  have HT2 : Hid (∀ w', Cur w' cb s k → Calls Tryd.prog 78 #[.pointer (some ⟨cb, 0, none⟩), .string ⟨#[91, 46]⟩] w' fun e w'' => e = .returned (.bool false) ∧ Mv cb s k w' w'') := Lib.hid fun w' h' => take2_no cb k s 91 46 w' h' (by decide) (by decide) (fun h => h91 h.1)
  have HT3 : Hid (∀ w', Cur w' cb s k → Calls Tryd.prog 78 #[.pointer (some ⟨cb, 0, none⟩), .string ⟨#[91, 61]⟩] w' fun e w'' => e = .returned (.bool false) ∧ Mv cb s k w' w'') := Lib.hid fun w' h' => take2_no cb k s 91 61 w' h' (by decide) (by decide) (fun h => h91 h.1)
  have HT4 : Hid (∀ w', Cur w' cb s k → Calls Tryd.prog 78 #[.pointer (some ⟨cb, 0, none⟩), .string ⟨#[92]⟩] w' fun e w'' => e = .returned (.bool true) ∧ Mv cb s (k + 1) w' w'') := Lib.hid fun w' h' => take1_yes cb k s 92 w' h' (by decide) h1
  have HN : Hid (∀ w', Cur w' cb s (k + 1) → Calls Tryd.prog 119 #[.pointer (some ⟨cb, 0, none⟩)] w' fun e w'' => e = .returned (.tuple #[.int .u8 (atB s (k + 1)), .bool true]) ∧ Mv cb s ((k + 1) + 1) w' w'') := Lib.hid fun w' h' => by
    have := next_any cb (k + 1) s w' h'
    rw [if_pos hk, decide_eq_true hk] at this
    exact this
  clear h h1 h91
  generalize atB s (k + 1) = c at *
  go_enter Tryd.func95, Tryd.ntmps95
  go_wp2_with fail
  obtain ⟨W, hW⟩ : ∃ W, W = w.alloc (.cells #[.int .i64 0, .bool false, .int .u64 0, .int .u64 0, .int .u64 0, .int .u64 0, .int .u8 0] 139) := ⟨_, rfl⟩
  rw [← hW]
  have HMW : Hid (Mv cb s k w W) := Lib.hid (by rw [hW]; exact Mv.below HH.out.2.1 ((Below.refl _ _).alloc (Nat.le_refl _) _))
  have HG0 : Hid (W.heap[w.heap.size]? = some (.cells #[.int .i64 0, .bool false, .int .u64 0, .int .u64 0, .int .u64 0, .int .u64 0, .int .u8 0] 139)) := Lib.hid (by rw [hW]; exact alloc_last w _)
  have hsz : w.heap.size < W.heap.size := by rw [hW]; simp
  clear hW
  have hcb := HH.out.lt.2
  have HR0 := Lib.hid (HH.out.mv HMW.out)
  have HM0 := Lib.hid (Mv.refl HR0.out.2.1)
  refine (HP.out _ HR0.out).mono ?_
  rintro e w1 ⟨rfl, hm1⟩
  have HM1 := Lib.hid (HM0.out.trans hm1)
  have HR1 := Lib.hid (HR0.out.mv HM1.out)
  obtain ⟨a10, a11, a12, a1z⟩ := HR1.out.facts
  clear hm1
  go_wp2_with fail
  refine (HT1.out _ HR1.out.2.1).mono ?_
  rintro e w2 ⟨rfl, hm2⟩
  have HM2 := Lib.hid (HM1.out.trans hm2)
  have HR2 := Lib.hid (HR0.out.mv HM2.out)
  obtain ⟨a20, a21, a22, a2z⟩ := HR2.out.facts
  clear hm2
  go_wp2_with fail
  refine (HT2.out _ HR2.out.2.1).mono ?_
  rintro e w3 ⟨rfl, hm3⟩
  have HM3 := Lib.hid (HM2.out.trans hm3)
  have HR3 := Lib.hid (HR0.out.mv HM3.out)
  obtain ⟨a30, a31, a32, a3z⟩ := HR3.out.facts
  clear hm3
  go_wp2_with fail
  refine (HT3.out _ HR3.out.2.1).mono ?_
  rintro e w4 ⟨rfl, hm4⟩
  have HM4 := Lib.hid (HM3.out.trans hm4)
  have HR4 := Lib.hid (HR0.out.mv HM4.out)
  obtain ⟨a40, a41, a42, a4z⟩ := HR4.out.facts
  clear hm4
  go_wp2_with fail
  refine (HT4.out _ HR4.out.2.1).mono ?_
  rintro e w5 ⟨rfl, hm5⟩
  have HM5 := Lib.hid (HM4.out.trans hm5)
  have HR5 := Lib.hid (HR0.out.mv HM5.out)
  obtain ⟨a50, a51, a52, a5z⟩ := HR5.out.facts
  clear hm5
  go_wp2_with fail
  refine (HN.out _ HR5.out.2.1).mono ?_
  rintro e w6 ⟨rfl, hm6⟩
  have HM6 := Lib.hid (HM5.out.trans hm6)
  have HR6 := Lib.hid (HR0.out.mv HM6.out)
  obtain ⟨a60, a61, a62, a6z⟩ := HR6.out.facts
  clear hm6
  have hg := (HM6.out.2.2 w.heap.size hsz (by omega)).trans HG0.out
  obtain ⟨⟨c0, c1, c2, c3, c4, c5, c6⟩, ⟨g0, g1, g2, g3, g4, g5, g6⟩, hgz⟩ := cells7 hg
  clear hg
  go_wp2
  refine bodyPost_ret (by simp [results, Tryd.results95, go_sem, c0, c1, c2, c3, c4, c5, c6]; rfl) rfl ⟨by unfold IV; rw [item_no.1, item_no.2.1, item_no.2.2.1, item_no.2.2.2]; rfl, ?_⟩
  exact (Mv.setOther (Mv.setOther (Mv.setOther (Mv.setOther (Mv.setOther (Mv.setOther (Mv.setOther (HMW.out.trans HM6.out) w.heap.size 0 _ (Nat.le_refl _) hcb) w.heap.size 1 _ (Nat.le_refl _) hcb) w.heap.size 2 _ (Nat.le_refl _) hcb) w.heap.size 3 _ (Nat.le_refl _) hcb) w.heap.size 4 _ (Nat.le_refl _) hcb) w.heap.size 5 _ (Nat.le_refl _) hcb) w.heap.size 6 _ (Nat.le_refl _) hcb)
end Go.Proofs.YtopnckfmdjhbjaaDoor
