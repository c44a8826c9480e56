/- The contracts of each at any tree, of Size. -/
import Derived.Test.YtlmoeldillpamaaDoorArSizeO
namespace Go.Proofs.YtlmoeldillpamaaDoor
open Go.RowKit

/-- How many constants, names and operators a tree has. -/
def sizeT : Tr → Nat
  | .num _ _ => oneN sNum
  | .name _ _ => oneN sName
  | .un op _ a => oneN op + [sizeT a].sum
  | .bin op _ a b => oneN op + [sizeT a, sizeT b].sum
  | .cond op _ a b c => oneN op + [sizeT a, sizeT b, sizeT c].sum
  | .asg op _ _ _ a => oneN op + [sizeT a].sum

def Tr.OpLe (N : Nat) : Tr → Prop
  | .num _ _ => True
  | .name _ _ => True
  | .un op _ a => op.size ≤ N ∧ a.OpLe N
  | .bin op _ a b => op.size ≤ N ∧ a.OpLe N ∧ b.OpLe N
  | .cond op _ a b c => op.size ≤ N ∧ a.OpLe N ∧ b.OpLe N ∧ c.OpLe N
  | .asg op _ _ _ a => op.size ≤ N ∧ a.OpLe N

theorem opTxt_ge (op nm : ByteArray) (ks : List (List UInt8)) : 2 + op.size + (ks.map fun k => k.length + 1).sum ≤ (opTxt op nm ks).length := by
  unfold opTxt
  have e1 : (⟨#[40]⟩ ++ op : ByteArray).size = 1 + op.size := ByteArray.size_append
  have e3 : (ks.map fun k => (32 : UInt8) :: k).flatten.length = (ks.map fun k => k.length + 1).sum := by
    rw [List.length_flatten, List.map_map]
    rfl
  simp only [List.length_append, dl_len, e1, e3, List.length_singleton]
  omega

theorem opLe_txt (N : Nat) : ∀ t : Tr, (txt t).length ≤ N → t.OpLe N
  | .num _ _, _ => trivial
  | .name _ _, _ => trivial
  | .un op _ a, h => by
    have := opTxt_ge op sEmpty [txt a]
    simp only [List.map_cons, List.map_nil, List.sum_cons, List.sum_nil] at this
    simp only [txt] at h
    exact ⟨by omega, opLe_txt N a (by omega)⟩
  | .bin op _ a b, h => by
    have := opTxt_ge op sEmpty [txt a, txt b]
    simp only [List.map_cons, List.map_nil, List.sum_cons, List.sum_nil] at this
    simp only [txt] at h
    exact ⟨by omega, opLe_txt N a (by omega), opLe_txt N b (by omega)⟩
  | .cond op _ a b c, h => by
    have := opTxt_ge op sEmpty [txt a, txt b, txt c]
    simp only [List.map_cons, List.map_nil, List.sum_cons, List.sum_nil] at this
    simp only [txt] at h
    exact ⟨by omega, opLe_txt N a (by omega), opLe_txt N b (by omega), opLe_txt N c (by omega)⟩
  | .asg op s _ _ a, h => by
    have := opTxt_ge op s [txt a]
    simp only [List.map_cons, List.map_nil, List.sum_cons, List.sum_nil] at this
    simp only [txt] at h
    exact ⟨by omega, opLe_txt N a (by omega)⟩

theorem oneN_le (op : ByteArray) : oneN op ≤ 2 := by unfold oneN; split <;> omega
theorem sizeT_txt : ∀ t : Tr, sizeT t ≤ 2 * ((txt t).length + 1)
  | .num _ _ => by have := oneN_le sNum; simp only [sizeT]; omega
  | .name _ _ => by have := oneN_le sName; simp only [sizeT]; omega
  | .un op _ a => by
    have := opTxt_ge op sEmpty [txt a]
    have := oneN_le op
    have := sizeT_txt a
    simp only [List.map_cons, List.map_nil, List.sum_cons, List.sum_nil, sizeT, txt] at *
    omega
  | .bin op _ a b => by
    have := opTxt_ge op sEmpty [txt a, txt b]
    have := oneN_le op
    have := sizeT_txt a
    have := sizeT_txt b
    simp only [List.map_cons, List.map_nil, List.sum_cons, List.sum_nil, sizeT, txt] at *
    omega
  | .cond op _ a b c => by
    have := opTxt_ge op sEmpty [txt a, txt b, txt c]
    have := oneN_le op
    have := sizeT_txt a
    have := sizeT_txt b
    have := sizeT_txt c
    simp only [List.map_cons, List.map_nil, List.sum_cons, List.sum_nil, sizeT, txt] at *
    omega
  | .asg op s _ _ a => by
    have := opTxt_ge op s [txt a]
    have := oneN_le op
    have := sizeT_txt a
    simp only [List.map_cons, List.map_nil, List.sum_cons, List.sum_nil, sizeT, txt] at *
    omega

theorem kidn1 {W0 : World} {b k : Nat} {a : Tr} {ka : Value} (hk : W0.heap[k]? = some (.cells (a.cells ka).toArray 36)) (hs : ∃ o m, ka = .slice o m m)
    (hw : Counts W0 b (.agg #[.string a.op, .int .i64 a.val, .string a.nm, .int .i64 a.pos, .int .i64 a.apos, ka]) (sizeT a)) : KidsN W0 b k [sizeT a] := by
  intro i hi
  obtain rfl : i = 0 := by simpa using hi
  exact ⟨a.op, a.val, a.nm, a.pos, a.apos, ka, ⟨arr_cell hk rfl, arr_cell hk rfl, arr_cell hk rfl, arr_cell hk rfl, arr_cell hk rfl, arr_cell hk rfl⟩, hs, hw⟩
theorem kidn2 {W0 : World} {b k : Nat} {a c : Tr} {ka kc : Value} (hk : W0.heap[k]? = some (.cells (a.cells ka ++ c.cells kc).toArray 36)) (hs : ∃ o m, ka = .slice o m m) (hs2 : ∃ o m, kc = .slice o m m)
    (hw : Counts W0 b (.agg #[.string a.op, .int .i64 a.val, .string a.nm, .int .i64 a.pos, .int .i64 a.apos, ka]) (sizeT a))
    (hw2 : Counts W0 b (.agg #[.string c.op, .int .i64 c.val, .string c.nm, .int .i64 c.pos, .int .i64 c.apos, kc]) (sizeT c)) : KidsN W0 b k [sizeT a, sizeT c] := by
  intro i hi
  match i, hi with
  | 0, _ => exact ⟨a.op, a.val, a.nm, a.pos, a.apos, ka, ⟨arr_cell hk rfl, arr_cell hk rfl, arr_cell hk rfl, arr_cell hk rfl, arr_cell hk rfl, arr_cell hk rfl⟩, hs, hw⟩
  | 1, _ => exact ⟨c.op, c.val, c.nm, c.pos, c.apos, kc, ⟨arr_cell hk rfl, arr_cell hk rfl, arr_cell hk rfl, arr_cell hk rfl, arr_cell hk rfl, arr_cell hk rfl⟩, hs2, hw2⟩
theorem kidn3 {W0 : World} {b k : Nat} {a c d : Tr} {ka kc kd : Value} (hk : W0.heap[k]? = some (.cells (a.cells ka ++ c.cells kc ++ d.cells kd).toArray 36)) (hs : ∃ o m, ka = .slice o m m) (hs2 : ∃ o m, kc = .slice o m m) (hs3 : ∃ o m, kd = .slice o m m)
    (hw : Counts W0 b (.agg #[.string a.op, .int .i64 a.val, .string a.nm, .int .i64 a.pos, .int .i64 a.apos, ka]) (sizeT a))
    (hw2 : Counts W0 b (.agg #[.string c.op, .int .i64 c.val, .string c.nm, .int .i64 c.pos, .int .i64 c.apos, kc]) (sizeT c))
    (hw3 : Counts W0 b (.agg #[.string d.op, .int .i64 d.val, .string d.nm, .int .i64 d.pos, .int .i64 d.apos, kd]) (sizeT d)) : KidsN W0 b k [sizeT a, sizeT c, sizeT d] := by
  intro i hi
  match i, hi with
  | 0, _ => exact ⟨a.op, a.val, a.nm, a.pos, a.apos, ka, ⟨arr_cell hk rfl, arr_cell hk rfl, arr_cell hk rfl, arr_cell hk rfl, arr_cell hk rfl, arr_cell hk rfl⟩, hs, hw⟩
  | 1, _ => exact ⟨c.op, c.val, c.nm, c.pos, c.apos, kc, ⟨arr_cell hk rfl, arr_cell hk rfl, arr_cell hk rfl, arr_cell hk rfl, arr_cell hk rfl, arr_cell hk rfl⟩, hs2, hw2⟩
  | 2, _ => exact ⟨d.op, d.val, d.nm, d.pos, d.apos, kd, ⟨arr_cell hk rfl, arr_cell hk rfl, arr_cell hk rfl, arr_cell hk rfl, arr_cell hk rfl, arr_cell hk rfl⟩, hs3, hw3⟩

theorem each_any (W0 : World) (b : Nat) (hB : W0.heap.size ≤ b) (N : Nat) (hN : N ≤ 9223372036854775807) : ∀ (t : Tr) (kv : Value), t.In W0 0 kv → t.OpLe N → Counts W0 b (.agg #[.string t.op, .int .i64 t.val, .string t.nm, .int .i64 t.pos, .int .i64 t.apos, kv]) (sizeT t)
  | .num n p, kv, hi, _ => by obtain rfl : kv = _ := hi; exact each_leaf W0 b hB sNum sEmpty n p 0 (by decide)
  | .name s p, kv, hi, _ => by obtain rfl : kv = _ := hi; exact each_leaf W0 b hB sName s 0 p 0 (by decide)
  | .un op p a, kv, hi, hw => by
    obtain ⟨k, ka, rfl, _, hk, ha⟩ := hi
    obtain ⟨hop, hwa⟩ := hw
    exact each_op W0 b k hB op sEmpty 0 p 0 [sizeT a] (kidn1 hk ha.shape (each_any W0 b hB N hN a ka ha hwa)) (by simp) (by omega)
  | .bin op p a c, kv, hi, hw => by
    obtain ⟨k, ka, kc, rfl, _, hk, ha, hc⟩ := hi
    obtain ⟨hop, hwa, hwc⟩ := hw
    exact each_op W0 b k hB op sEmpty 0 p 0 [sizeT a, sizeT c] (kidn2 hk ha.shape hc.shape (each_any W0 b hB N hN a ka ha hwa) (each_any W0 b hB N hN c kc hc hwc)) (by simp) (by omega)
  | .cond op p a c d, kv, hi, hw => by
    obtain ⟨k, ka, kc, kd, rfl, _, hk, ha, hc, hd⟩ := hi
    obtain ⟨hop, hwa, hwc, hwd⟩ := hw
    exact each_op W0 b k hB op sEmpty 0 p 0 [sizeT a, sizeT c, sizeT d] (kidn3 hk ha.shape hc.shape hd.shape (each_any W0 b hB N hN a ka ha hwa) (each_any W0 b hB N hN c kc hc hwc) (each_any W0 b hB N hN d kd hd hwd)) (by simp) (by omega)
  | .asg op s p q a, kv, hi, hw => by
    obtain ⟨k, ka, rfl, _, hk, ha⟩ := hi
    obtain ⟨hop, hwa⟩ := hw
    exact each_op W0 b k hB op s 0 p q [sizeT a] (kidn1 hk ha.shape (each_any W0 b hB N hN a ka ha hwa)) (by simp) (by omega)

set_option maxRecDepth 100000 in
set_option maxHeartbeats 2000000 in
theorem size_any (E : Nat) (t : Tr) (w : World) (h : ExAt w E t) (hw : t.Wf) (hl : (txt t).length ≤ 32768) :
    Calls Tryd.prog 13 #[.pointer (some ⟨E, 0, none⟩)] w fun e w' => e = .returned (.int .i64 (sizeT t)) ∧ Below w.heap.size w w' := by
  have hmf : ∀ (fn : Fn) (first cap : Array Value) (w : World), (Instr.makeFunc fn first cap).run Tryd.prog w = .ok (.func fn first cap) w := fun _ _ _ _ => rfl
  have HN := Lib.hid (isNone_no E t w h hw)
  obtain ⟨o, m, hE, hI⟩ := h
  have hEl := lt_of_heap hE
  obtain ⟨⟨c0, c1, c2, c3, c4, c5⟩, _⟩ := six_facts hE
  have HW := Lib.hid (each_any w w.heap.size (Nat.le_refl _) 32768 (by decide) t _ hI (opLe_txt _ t hl))
  have HS := Lib.hid (sizeT_txt t)
  have HL := Lib.hid hl
  clear hE hI hw hl
  go_enter Tryd.func13, Tryd.ntmps13
  go_wp2_with (go_at_call 21; refine HN.out.mono ?_; rintro e w' ⟨rfl, rfl⟩)
  have hcall := HW.out 0 (w.alloc (.cells #[.int .i64 0] 3)) ((Below.refl _ _).alloc (Nat.le_refl _) _) (heap_alloc_last w _) (by omega) (by have := HS.out; have := HL.out; omega)
  refine hcall.mono ?_
  clear hcall
  rintro e w1 ⟨rfl, hc1, _, hb1⟩
  have HC : Hid (CtAt w1 w.heap.size (sizeT t)) := Lib.hid (by have := hc1; simpa using this)
  have HB := Lib.hid hb1
  clear hc1 hb1 c0 c1 c2 c3 c4 c5
  obtain ⟨d1, d2⟩ := ct_facts HC.out
  go_wp2_with fail
  go_ret
  exact ⟨rfl, HB.out⟩
set_option maxHeartbeats 1000000 in
/-- Size of what Parse told. -/
theorem size_of (l : List Int) (n : Nat) (e : Tr) (t : Tk) (E : Nat) (w : World) (hp : parseP l n = some (.ok e t)) (h : ExAt w E e) :
    Calls Tryd.prog 13 #[.pointer (some ⟨E, 0, none⟩)] w fun x w' => x = .returned (.int .i64 (sizeT e)) ∧ Below w.heap.size w w' :=
  size_any E e w h (parseP_wf hp).1 (parseP_len hp)
end Go.Proofs.YtlmoeldillpamaaDoor
