/- The contracts of write at any tree, of Text, of isNone. -/
import Derived.Test.YtacfglopionkfaaGreatDoorKWr
import Derived.Test.YtacfglopionkfaaGreatDoorShelfB
namespace Go.Proofs.YtacfglopionkfaaGreatDoor
open Go.RowKit

theorem arr_cell {w : World} {b j : Nat} {cs : List Value} {ty : TypeId} {u : Value} (h : w.heap[b]? = some (.cells cs.toArray ty)) (hu : cs[j]? = some u) : w.cell? ⟨b, j, none⟩ = some u := by
  simp [World.cell?, h, hu]

theorem kids1 {W0 : World} {b k : Nat} {a : Tr} {ka : Value} (hk : W0.heap[k]? = some (.cells (a.cells ka).toArray 30)) (hs : ∃ o m, ka = .slice o m m)
    (hw : Writes W0 b (.agg #[.string a.op, .int .i64 a.val, .string a.nm, .int .i64 a.pos, .int .i64 a.apos, ka]) (cellsT a)) : KidsAt W0 b k [cellsT a] := by
  intro i hi
  obtain rfl : i = 0 := by simpa using hi
  exact ⟨a.op, a.val, a.nm, a.pos, a.apos, ka, ⟨arr_cell hk rfl, arr_cell hk rfl, arr_cell hk rfl, arr_cell hk rfl, arr_cell hk rfl, arr_cell hk rfl⟩, hs, hw⟩
theorem kids2 {W0 : World} {b k : Nat} {a c : Tr} {ka kc : Value} (hk : W0.heap[k]? = some (.cells (a.cells ka ++ c.cells kc).toArray 30)) (hs : ∃ o m, ka = .slice o m m) (hs2 : ∃ o m, kc = .slice o m m)
    (hw : Writes W0 b (.agg #[.string a.op, .int .i64 a.val, .string a.nm, .int .i64 a.pos, .int .i64 a.apos, ka]) (cellsT a))
    (hw2 : Writes W0 b (.agg #[.string c.op, .int .i64 c.val, .string c.nm, .int .i64 c.pos, .int .i64 c.apos, kc]) (cellsT c)) : KidsAt W0 b k [cellsT a, cellsT c] := by
  intro i hi
  match i, hi with
  | 0, _ => exact ⟨a.op, a.val, a.nm, a.pos, a.apos, ka, ⟨arr_cell hk rfl, arr_cell hk rfl, arr_cell hk rfl, arr_cell hk rfl, arr_cell hk rfl, arr_cell hk rfl⟩, hs, hw⟩
  | 1, _ => exact ⟨c.op, c.val, c.nm, c.pos, c.apos, kc, ⟨arr_cell hk rfl, arr_cell hk rfl, arr_cell hk rfl, arr_cell hk rfl, arr_cell hk rfl, arr_cell hk rfl⟩, hs2, hw2⟩
theorem kids3 {W0 : World} {b k : Nat} {a c d : Tr} {ka kc kd : Value} (hk : W0.heap[k]? = some (.cells (a.cells ka ++ c.cells kc ++ d.cells kd).toArray 30)) (hs : ∃ o m, ka = .slice o m m) (hs2 : ∃ o m, kc = .slice o m m) (hs3 : ∃ o m, kd = .slice o m m)
    (hw : Writes W0 b (.agg #[.string a.op, .int .i64 a.val, .string a.nm, .int .i64 a.pos, .int .i64 a.apos, ka]) (cellsT a))
    (hw2 : Writes W0 b (.agg #[.string c.op, .int .i64 c.val, .string c.nm, .int .i64 c.pos, .int .i64 c.apos, kc]) (cellsT c))
    (hw3 : Writes W0 b (.agg #[.string d.op, .int .i64 d.val, .string d.nm, .int .i64 d.pos, .int .i64 d.apos, kd]) (cellsT d)) : KidsAt W0 b k [cellsT a, cellsT c, cellsT d] := by
  intro i hi
  match i, hi with
  | 0, _ => exact ⟨a.op, a.val, a.nm, a.pos, a.apos, ka, ⟨arr_cell hk rfl, arr_cell hk rfl, arr_cell hk rfl, arr_cell hk rfl, arr_cell hk rfl, arr_cell hk rfl⟩, hs, hw⟩
  | 1, _ => exact ⟨c.op, c.val, c.nm, c.pos, c.apos, kc, ⟨arr_cell hk rfl, arr_cell hk rfl, arr_cell hk rfl, arr_cell hk rfl, arr_cell hk rfl, arr_cell hk rfl⟩, hs2, hw2⟩
  | 2, _ => exact ⟨d.op, d.val, d.nm, d.pos, d.apos, kd, ⟨arr_cell hk rfl, arr_cell hk rfl, arr_cell hk rfl, arr_cell hk rfl, arr_cell hk rfl, arr_cell hk rfl⟩, hs3, hw3⟩

theorem write_any (W0 : World) (b : Nat) (hT : TP W0) : ∀ (t : Tr) (kv : Value), t.In W0 0 kv → t.Wf → Writes W0 b (.agg #[.string t.op, .int .i64 t.val, .string t.nm, .int .i64 t.pos, .int .i64 t.apos, kv]) (cellsT t)
  | .num n p, kv, hi, hw => by obtain rfl : kv = _ := hi; exact write_num W0 b hT n p hw.1 hw.2
  | .name s p, kv, hi, _ => by obtain rfl : kv = _ := hi; exact write_name W0 b s p
  | .un op p a, kv, hi, hw => by
    obtain ⟨k, ka, rfl, _, hk, ha⟩ := hi
    obtain ⟨⟨h1, h2, _⟩, hwa⟩ := hw
    exact write_op W0 b k op sEmpty 0 p 0 [cellsT a] (kids1 hk ha.shape (write_any W0 b hT a ka ha hwa)) (by simp) (by simp) h1 h2
  | .bin op p a c, kv, hi, hw => by
    obtain ⟨k, ka, kc, rfl, _, hk, ha, hc⟩ := hi
    obtain ⟨⟨h1, h2, _⟩, hwa, hwc⟩ := hw
    exact write_op W0 b k op sEmpty 0 p 0 [cellsT a, cellsT c] (kids2 hk ha.shape hc.shape (write_any W0 b hT a ka ha hwa) (write_any W0 b hT c kc hc hwc)) (by simp) (by simp) h1 h2
  | .cond op p a c d, kv, hi, hw => by
    obtain ⟨k, ka, kc, kd, rfl, _, hk, ha, hc, hd⟩ := hi
    obtain ⟨⟨h1, h2, _⟩, hwa, hwc, hwd⟩ := hw
    exact write_op W0 b k op sEmpty 0 p 0 [cellsT a, cellsT c, cellsT d] (kids3 hk ha.shape hc.shape hd.shape (write_any W0 b hT a ka ha hwa) (write_any W0 b hT c kc hc hwc) (write_any W0 b hT d kd hd hwd)) (by simp) (by simp) h1 h2
  | .asg op s p q a, kv, hi, hw => by
    obtain ⟨k, ka, rfl, _, hk, ha⟩ := hi
    obtain ⟨⟨h1, h2, _⟩, _, hwa⟩ := hw
    exact write_op W0 b k op s 0 p q [cellsT a] (kids1 hk ha.shape (write_any W0 b hT a ka ha hwa)) (by simp) (by simp) h1 h2

theorem Tr.Wf.op {t : Tr} (h : t.Wf) : t.op ≠ sEmpty := by
  cases t with
  | num n p => show sNum ≠ sEmpty; decide
  | name s p => show sName ≠ sEmpty; decide
  | un op p a => exact h.1.2.2
  | bin op p a b => exact h.1.2.2
  | cond op p a b c => exact h.1.2.2
  | asg op s p q a => exact h.1.2.2

/-- An expression in memory. -/
def ExAt (w : World) (E : Nat) (t : Tr) : Prop := ∃ o m, w.heap[E]? = some (.cells #[.string t.op, .int .i64 t.val, .string t.nm, .int .i64 t.pos, .int .i64 t.apos, .slice o m m] 77) ∧ t.In w 0 (.slice o m m)
set_option maxHeartbeats 1000000 in
theorem isNone_no (E : Nat) (t : Tr) (w : World) (h : ExAt w E t) (hw : t.Wf) : Calls Tryz.prog 58 #[.pointer (some ⟨E, 0, none⟩)] w fun e w' => e = .returned (.bool false) ∧ w = w' := by
  obtain ⟨o, m, hE, _⟩ := h
  obtain ⟨⟨c0, c1, c2, c3, c4, c5⟩, _⟩ := six_facts hE
  have e1 : t.op.toList.isEmpty = false := by have := tl_no (l := []) hw.op; simpa using this
  clear hE hw
  go_enter Tryz.func58, Tryz.ntmps58
  go_wp2
  go_ret
  exact ⟨rfl, rfl⟩

set_option maxRecDepth 100000 in
set_option maxHeartbeats 2000000 in
theorem text_any (E : Nat) (t : Tr) (tx : List UInt8) (w : World) (h : ExAt w E t) (hw : t.Wf) (hT : TP w) (htx : cellsT t = Lib.byteCells tx) (hl : tx.length ≤ 140737488355328) :
    Calls Tryz.prog 47 #[.pointer (some ⟨E, 0, none⟩)] w fun e w' => e = .returned (.string ⟨tx.toArray⟩) ∧ Below w.heap.size w w' := by
  have HN := Lib.hid (isNone_no E t w h hw)
  obtain ⟨o, m, hE, hI⟩ := h
  have hEl := lt_of_heap hE
  obtain ⟨⟨c0, c1, c2, c3, c4, c5⟩, _⟩ := six_facts hE
  have HW := Lib.hid (write_any w w.heap.size hT t _ hI hw)
  have HTx := Lib.hid htx
  have hlen : (cellsT t).length = tx.length := by rw [htx, Lib.byteCells_length]
  have HL := Lib.hid hlen
  clear hE hI hw hT htx hlen
  go_enter Tryz.func47, Tryz.ntmps47
  go_wp2_with (go_at_call 58; refine HN.out.mono ?_; rintro e w' ⟨rfl, rfl⟩)
  have hcall := HW.out [] (w.alloc (.cells #[.pointer none, .slice none 0 0] 147)) ((Below.refl _ _).alloc (Nat.le_refl _) _) (Lib.fresh_isBuilder _ _ w) (by rw [HL.out]; simpa using hl)
  refine hcall.mono ?_
  clear hcall
  rintro e w1 ⟨rfl, ⟨hd, _⟩, hb⟩
  have HD : Hid (Lib.IsBuilder 147 5 w.heap.size w.heap.size (Lib.byteCells tx) w1) := Lib.hid (Or.inr (by have := hd; rw [List.nil_append, HTx.out] at this; exact this))
  have HB := Lib.hid hb
  clear hd hb c0 c1 c2 c3 c4 c5
  go_wp2_with fail
  refine (Tryz.Builder_String_any w.heap.size w.heap.size tx w1 HD.out HB.out.size).mono ?_
  rintro e w2 ⟨rfl, hb2⟩
  go_wp2_with fail
  go_ret
  exact ⟨rfl, HB.out.trans hb2⟩
end Go.Proofs.YtacfglopionkfaaGreatDoor
