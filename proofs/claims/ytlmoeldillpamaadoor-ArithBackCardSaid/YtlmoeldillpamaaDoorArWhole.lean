/- The contract of the law's whole: each operator has its operands. -/
import Derived.Test.YtlmoeldillpamaaDoorArTree
import Derived.Test.YtlmoeldillpamaaDoorArOps
namespace Go.Proofs.YtlmoeldillpamaaDoor
open Go.RowKit

/-- Of a tree that lies with its kids in kv0 whole tells true. -/
def Wholes (W0 : World) (t : Tr) (kv0 : Value) : Prop := ∀ w, Below W0.heap.size W0 w → Calls Tryd.prog 9 #[t.v kv0] w fun e w' => e = .returned (.bool true) ∧ Below w.heap.size w w'
def KidsW (W0 : World) (blk n : Nat) (ks : Nat → Tr) (vs0 : Nat → Value) : Prop :=
  ∀ i, i < n → (W0.cell? ⟨blk, i * 6, none⟩ = some (.string (ks i).op) ∧ W0.cell? ⟨blk, i * 6 + 1, none⟩ = some (.int .i64 (ks i).val) ∧ W0.cell? ⟨blk, i * 6 + 2, none⟩ = some (.string (ks i).nm) ∧ W0.cell? ⟨blk, i * 6 + 3, none⟩ = some (.int .i64 (ks i).pos) ∧ W0.cell? ⟨blk, i * 6 + 4, none⟩ = some (.int .i64 (ks i).apos) ∧ W0.cell? ⟨blk, i * 6 + 5, none⟩ = some (vs0 i)) ∧ (∃ a m c, vs0 i = .slice a m c) ∧ Wholes W0 (ks i) (vs0 i)
theorem tl_yes {s : ByteArray} {l : List UInt8} (h : s = ⟨l.toArray⟩) : (s.toList == l) = true := by rw [tl_beq]; simpa using h
theorem tl_nil {s : ByteArray} (h : s = sEmpty) : s.toList.isEmpty = true := by rw [h]; exact tl_emp
theorem tl_some {s : ByteArray} (h : ¬ s = sEmpty) : s.toList.isEmpty = false := by
  have := tl_no (s := s) (l := []) h
  cases hs : s.toList with
  | nil => rw [hs] at this; exact absurd this (by decide)
  | cons x m => rfl

set_option maxRecDepth 100000 in
set_option maxHeartbeats 4000000 in
theorem whole_num (W0 : World) (op nm : ByteArray) (nv p q : Int) (e0 : (op.toList == [110, 117, 109]) = true) (hz : op.toList.isEmpty = false) (hn : nm.toList.isEmpty = true) (w : World) (hb : Below W0.heap.size W0 w) :
    Calls Tryd.prog 9 #[.agg #[.string op, .int .i64 nv, .string nm, .int .i64 p, .int .i64 q, .slice none 0 0]] w fun e w' => e = .returned (.bool true) ∧ Below w.heap.size w w' := by
  have HBb := Lib.hid hb
  clear hb
  go_enter Tryd.func9, Tryd.ntmps9
  go_wp2_with fail
  obtain ⟨W, hW⟩ : ∃ W : World, W = w.alloc (.cells #[.string op, .int .i64 nv, .string nm, .int .i64 p, .int .i64 q, .slice none 0 0] 36) := ⟨_, rfl⟩
  rw [← hW]
  have HB : Hid (Below w.heap.size w W) := Lib.hid (by rw [hW]; exact (Below.refl _ _).alloc (Nat.le_refl _) _)
  clear hW
  go_loop [5, 39] (fun _ i => i = .int .i64 0) (fun _ _ => 0)
  case atStart => rfl
  case round =>
    obtain rfl := hrel
    go_wp2_with fail
    go_ret
    exact ⟨rfl, HB.out⟩

set_option maxRecDepth 100000 in
set_option maxHeartbeats 4000000 in
theorem whole_name (W0 : World) (op nm : ByteArray) (nv p q : Int) (e0 : (op.toList == [110, 117, 109]) = false) (e1 : (op.toList == [110, 97, 109, 101]) = true) (hz : op.toList.isEmpty = false) (hn : nm.toList.isEmpty = false) (w : World) (hb : Below W0.heap.size W0 w) :
    Calls Tryd.prog 9 #[.agg #[.string op, .int .i64 nv, .string nm, .int .i64 p, .int .i64 q, .slice none 0 0]] w fun e w' => e = .returned (.bool true) ∧ Below w.heap.size w w' := by
  have HBb := Lib.hid hb
  clear hb
  go_enter Tryd.func9, Tryd.ntmps9
  go_wp2_with fail
  obtain ⟨W, hW⟩ : ∃ W : World, W = w.alloc (.cells #[.string op, .int .i64 nv, .string nm, .int .i64 p, .int .i64 q, .slice none 0 0] 36) := ⟨_, rfl⟩
  rw [← hW]
  have HB : Hid (Below w.heap.size w W) := Lib.hid (by rw [hW]; exact (Below.refl _ _).alloc (Nat.le_refl _) _)
  clear hW
  go_loop [5, 39] (fun _ i => i = .int .i64 0) (fun _ _ => 0)
  case atStart => rfl
  case round =>
    obtain rfl := hrel
    go_wp2_with fail
    go_ret
    exact ⟨rfl, HB.out⟩

set_option maxRecDepth 100000 in
set_option maxHeartbeats 4000000 in
theorem whole_two (W0 : World) (blk cap0 : Nat) (op nm : ByteArray) (nv p q : Int) (ks : Nat → Tr) (vs0 : Nat → Value) (hks : KidsW W0 blk 2 ks vs0)
    (e0 : (op.toList == [110, 117, 109]) = false) (e1 : (op.toList == [110, 97, 109, 101]) = false) (e2 : (op.toList == [63]) = false) (e3 : (op.toList == [117, 43]) = false) (e4 : (op.toList == [117, 45]) = false) (e5 : (op.toList == [33]) = false) (e6 : (op.toList == [126]) = false) (hz : op.toList.isEmpty = false) (hn : nm.toList.isEmpty = true) (w : World) (hb : Below W0.heap.size W0 w) :
    Calls Tryd.prog 9 #[.agg #[.string op, .int .i64 nv, .string nm, .int .i64 p, .int .i64 q, .slice (some ⟨blk, 0, none⟩) 2 cap0]] w fun e w' => e = .returned (.bool true) ∧ Below w.heap.size w w' := by
  have HK := Lib.hid hks
  have HW0 : Hid (∀ X, Below w.heap.size w X → Below W0.heap.size W0 X) := Lib.hid (fun X hX => hb.trans (hX.mono hb.size))
  clear hks hb
  go_enter Tryd.func9, Tryd.ntmps9
  go_wp2_with fail
  obtain ⟨W, hW⟩ : ∃ W : World, W = w.alloc (.cells #[.string op, .int .i64 nv, .string nm, .int .i64 p, .int .i64 q, .slice (some ⟨blk, 0, none⟩) 2 cap0] 36) := ⟨_, rfl⟩
  rw [← hW]
  have HB : Hid (Below w.heap.size w W) := Lib.hid (by rw [hW]; exact (Below.refl _ _).alloc (Nat.le_refl _) _)
  clear hW
  go_loopg [5, 39] 2 (fun g _ s39 wr => ∃ k : Nat, g = 2 - k ∧ k ≤ 2 ∧ s39 = .int .i64 k ∧ Aside (Below w.heap.size w wr))
  case atStart => exact ⟨0, by omega, by omega, rfl, HB.out⟩
  case round =>
    obtain ⟨k, hg, hk, rfl, A1⟩ := hrel
    have HG := Lib.hid hg
    have HBr := Lib.hid A1.out
    clear hg A1 HB
    by_cases hlt : k < 2
    · have hki : (k : Int) < 2 := by omega
      obtain ⟨⟨x0, x1, x2, x3, x4, x5⟩, ⟨ka, km, kc, hv0⟩, hcl⟩ := HK.out k hlt
      rw [hv0] at x5 hcl
      have HC : Hid (∀ X, Below W0.heap.size W0 X → Calls Tryd.prog 9 #[.agg #[.string (ks k).op, .int .i64 (ks k).val, .string (ks k).nm, .int .i64 (ks k).pos, .int .i64 (ks k).apos, .slice ka km kc]] X fun e w' => e = .returned (.bool true) ∧ Below X.heap.size X w') := Lib.hid (fun X hX => hcl X hX)
      clear hv0 hcl
      have HB0 := Lib.hid (HW0.out wr HBr.out)
      have hc : ∀ j u, W0.cell? ⟨blk, j, none⟩ = some u → wr.cell? ⟨blk, j, none⟩ = some u := fun j u h => cell_kept HB0.out h
      have y0 := hc _ _ x0
      have y1 := hc _ _ x1
      have y2 := hc _ _ x2
      have y3 := hc _ _ x3
      have y4 := hc _ _ x4
      have y5 := hc _ _ x5
      clear hc x0 x1 x2 x3 x4 x5
      go_wp2_with fail
      have hcall := HC.out (wr.alloc (.cells #[.string (ks k).op, .int .i64 (ks k).val, .string (ks k).nm, .int .i64 (ks k).pos, .int .i64 (ks k).apos, .slice ka km kc] 36)) (HB0.out.alloc HB0.out.size _)
      refine hcall.mono ?_
      clear hcall
      rintro e w4 ⟨rfl, hb4⟩
      have HB4 : Hid (Below w.heap.size w w4) := Lib.hid ((HBr.out.alloc HBr.out.size _).trans (hb4.mono (HBr.out.alloc HBr.out.size _).size))
      clear hb4 y0 y1 y2 y3 y4 y5
      go_wp2_with fail
      go_roundg (2 - (k + 1))
      case measure => have := HG.out; omega
      case rel => exact ⟨k + 1, rfl, by omega, by go_num, HB4.out⟩
    · obtain rfl : k = 2 := by omega
      go_wp2_with fail
      go_ret
      exact ⟨rfl, HBr.out⟩

set_option maxRecDepth 100000 in
set_option maxHeartbeats 4000000 in
theorem whole_set (W0 : World) (blk cap0 : Nat) (op nm : ByteArray) (nv p q : Int) (ks : Nat → Tr) (vs0 : Nat → Value) (hks : KidsW W0 blk 1 ks vs0)
    (e0 : (op.toList == [110, 117, 109]) = false) (e1 : (op.toList == [110, 97, 109, 101]) = false) (e2 : (op.toList == [63]) = false) (e3 : (op.toList == [117, 43]) = false) (e4 : (op.toList == [117, 45]) = false) (e5 : (op.toList == [33]) = false) (e6 : (op.toList == [126]) = false) (hz : op.toList.isEmpty = false) (hn : nm.toList.isEmpty = false) (w : World) (hb : Below W0.heap.size W0 w) :
    Calls Tryd.prog 9 #[.agg #[.string op, .int .i64 nv, .string nm, .int .i64 p, .int .i64 q, .slice (some ⟨blk, 0, none⟩) 1 cap0]] w fun e w' => e = .returned (.bool true) ∧ Below w.heap.size w w' := by
  have HK := Lib.hid hks
  have HW0 : Hid (∀ X, Below w.heap.size w X → Below W0.heap.size W0 X) := Lib.hid (fun X hX => hb.trans (hX.mono hb.size))
  clear hks hb
  go_enter Tryd.func9, Tryd.ntmps9
  go_wp2_with fail
  obtain ⟨W, hW⟩ : ∃ W : World, W = w.alloc (.cells #[.string op, .int .i64 nv, .string nm, .int .i64 p, .int .i64 q, .slice (some ⟨blk, 0, none⟩) 1 cap0] 36) := ⟨_, rfl⟩
  rw [← hW]
  have HB : Hid (Below w.heap.size w W) := Lib.hid (by rw [hW]; exact (Below.refl _ _).alloc (Nat.le_refl _) _)
  clear hW
  go_loopg [5, 39] 1 (fun g _ s39 wr => ∃ k : Nat, g = 1 - k ∧ k ≤ 1 ∧ s39 = .int .i64 k ∧ Aside (Below w.heap.size w wr))
  case atStart => exact ⟨0, by omega, by omega, rfl, HB.out⟩
  case round =>
    obtain ⟨k, hg, hk, rfl, A1⟩ := hrel
    have HG := Lib.hid hg
    have HBr := Lib.hid A1.out
    clear hg A1 HB
    by_cases hlt : k < 1
    · have hki : (k : Int) < 1 := by omega
      obtain ⟨⟨x0, x1, x2, x3, x4, x5⟩, ⟨ka, km, kc, hv0⟩, hcl⟩ := HK.out k hlt
      rw [hv0] at x5 hcl
      have HC : Hid (∀ X, Below W0.heap.size W0 X → Calls Tryd.prog 9 #[.agg #[.string (ks k).op, .int .i64 (ks k).val, .string (ks k).nm, .int .i64 (ks k).pos, .int .i64 (ks k).apos, .slice ka km kc]] X fun e w' => e = .returned (.bool true) ∧ Below X.heap.size X w') := Lib.hid (fun X hX => hcl X hX)
      clear hv0 hcl
      have HB0 := Lib.hid (HW0.out wr HBr.out)
      have hc : ∀ j u, W0.cell? ⟨blk, j, none⟩ = some u → wr.cell? ⟨blk, j, none⟩ = some u := fun j u h => cell_kept HB0.out h
      have y0 := hc _ _ x0
      have y1 := hc _ _ x1
      have y2 := hc _ _ x2
      have y3 := hc _ _ x3
      have y4 := hc _ _ x4
      have y5 := hc _ _ x5
      clear hc x0 x1 x2 x3 x4 x5
      go_wp2_with fail
      have hcall := HC.out (wr.alloc (.cells #[.string (ks k).op, .int .i64 (ks k).val, .string (ks k).nm, .int .i64 (ks k).pos, .int .i64 (ks k).apos, .slice ka km kc] 36)) (HB0.out.alloc HB0.out.size _)
      refine hcall.mono ?_
      clear hcall
      rintro e w4 ⟨rfl, hb4⟩
      have HB4 : Hid (Below w.heap.size w w4) := Lib.hid ((HBr.out.alloc HBr.out.size _).trans (hb4.mono (HBr.out.alloc HBr.out.size _).size))
      clear hb4 y0 y1 y2 y3 y4 y5
      go_wp2_with fail
      go_roundg (1 - (k + 1))
      case measure => have := HG.out; omega
      case rel => exact ⟨k + 1, rfl, by omega, by go_num, HB4.out⟩
    · obtain rfl : k = 1 := by omega
      go_wp2_with fail
      go_ret
      exact ⟨rfl, HBr.out⟩

set_option maxRecDepth 100000 in
set_option maxHeartbeats 4000000 in
theorem whole_que (W0 : World) (blk cap0 : Nat) (op nm : ByteArray) (nv p q : Int) (ks : Nat → Tr) (vs0 : Nat → Value) (hks : KidsW W0 blk 3 ks vs0)
    (e0 : (op.toList == [110, 117, 109]) = false) (e1 : (op.toList == [110, 97, 109, 101]) = false) (e2 : (op.toList == [63]) = true) (hz : op.toList.isEmpty = false) (hn : nm.toList.isEmpty = true) (w : World) (hb : Below W0.heap.size W0 w) :
    Calls Tryd.prog 9 #[.agg #[.string op, .int .i64 nv, .string nm, .int .i64 p, .int .i64 q, .slice (some ⟨blk, 0, none⟩) 3 cap0]] w fun e w' => e = .returned (.bool true) ∧ Below w.heap.size w w' := by
  have HK := Lib.hid hks
  have HW0 : Hid (∀ X, Below w.heap.size w X → Below W0.heap.size W0 X) := Lib.hid (fun X hX => hb.trans (hX.mono hb.size))
  clear hks hb
  go_enter Tryd.func9, Tryd.ntmps9
  go_wp2_with fail
  obtain ⟨W, hW⟩ : ∃ W : World, W = w.alloc (.cells #[.string op, .int .i64 nv, .string nm, .int .i64 p, .int .i64 q, .slice (some ⟨blk, 0, none⟩) 3 cap0] 36) := ⟨_, rfl⟩
  rw [← hW]
  have HB : Hid (Below w.heap.size w W) := Lib.hid (by rw [hW]; exact (Below.refl _ _).alloc (Nat.le_refl _) _)
  clear hW
  go_loopg [5, 39] 3 (fun g _ s39 wr => ∃ k : Nat, g = 3 - k ∧ k ≤ 3 ∧ s39 = .int .i64 k ∧ Aside (Below w.heap.size w wr))
  case atStart => exact ⟨0, by omega, by omega, rfl, HB.out⟩
  case round =>
    obtain ⟨k, hg, hk, rfl, A1⟩ := hrel
    have HG := Lib.hid hg
    have HBr := Lib.hid A1.out
    clear hg A1 HB
    by_cases hlt : k < 3
    · have hki : (k : Int) < 3 := by omega
      obtain ⟨⟨x0, x1, x2, x3, x4, x5⟩, ⟨ka, km, kc, hv0⟩, hcl⟩ := HK.out k hlt
      rw [hv0] at x5 hcl
      have HC : Hid (∀ X, Below W0.heap.size W0 X → Calls Tryd.prog 9 #[.agg #[.string (ks k).op, .int .i64 (ks k).val, .string (ks k).nm, .int .i64 (ks k).pos, .int .i64 (ks k).apos, .slice ka km kc]] X fun e w' => e = .returned (.bool true) ∧ Below X.heap.size X w') := Lib.hid (fun X hX => hcl X hX)
      clear hv0 hcl
      have HB0 := Lib.hid (HW0.out wr HBr.out)
      have hc : ∀ j u, W0.cell? ⟨blk, j, none⟩ = some u → wr.cell? ⟨blk, j, none⟩ = some u := fun j u h => cell_kept HB0.out h
      have y0 := hc _ _ x0
      have y1 := hc _ _ x1
      have y2 := hc _ _ x2
      have y3 := hc _ _ x3
      have y4 := hc _ _ x4
      have y5 := hc _ _ x5
      clear hc x0 x1 x2 x3 x4 x5
      go_wp2_with fail
      have hcall := HC.out (wr.alloc (.cells #[.string (ks k).op, .int .i64 (ks k).val, .string (ks k).nm, .int .i64 (ks k).pos, .int .i64 (ks k).apos, .slice ka km kc] 36)) (HB0.out.alloc HB0.out.size _)
      refine hcall.mono ?_
      clear hcall
      rintro e w4 ⟨rfl, hb4⟩
      have HB4 : Hid (Below w.heap.size w w4) := Lib.hid ((HBr.out.alloc HBr.out.size _).trans (hb4.mono (HBr.out.alloc HBr.out.size _).size))
      clear hb4 y0 y1 y2 y3 y4 y5
      go_wp2_with fail
      go_roundg (3 - (k + 1))
      case measure => have := HG.out; omega
      case rel => exact ⟨k + 1, rfl, by omega, by go_num, HB4.out⟩
    · obtain rfl : k = 3 := by omega
      go_wp2_with fail
      go_ret
      exact ⟨rfl, HBr.out⟩

set_option maxRecDepth 100000 in
set_option maxHeartbeats 4000000 in
theorem whole_up (W0 : World) (blk cap0 : Nat) (op nm : ByteArray) (nv p q : Int) (ks : Nat → Tr) (vs0 : Nat → Value) (hks : KidsW W0 blk 1 ks vs0)
    (e0 : (op.toList == [110, 117, 109]) = false) (e1 : (op.toList == [110, 97, 109, 101]) = false) (e2 : (op.toList == [63]) = false) (e3 : (op.toList == [117, 43]) = true) (hz : op.toList.isEmpty = false) (hn : nm.toList.isEmpty = true) (w : World) (hb : Below W0.heap.size W0 w) :
    Calls Tryd.prog 9 #[.agg #[.string op, .int .i64 nv, .string nm, .int .i64 p, .int .i64 q, .slice (some ⟨blk, 0, none⟩) 1 cap0]] w fun e w' => e = .returned (.bool true) ∧ Below w.heap.size w w' := by
  have HK := Lib.hid hks
  have HW0 : Hid (∀ X, Below w.heap.size w X → Below W0.heap.size W0 X) := Lib.hid (fun X hX => hb.trans (hX.mono hb.size))
  clear hks hb
  go_enter Tryd.func9, Tryd.ntmps9
  go_wp2_with fail
  obtain ⟨W, hW⟩ : ∃ W : World, W = w.alloc (.cells #[.string op, .int .i64 nv, .string nm, .int .i64 p, .int .i64 q, .slice (some ⟨blk, 0, none⟩) 1 cap0] 36) := ⟨_, rfl⟩
  rw [← hW]
  have HB : Hid (Below w.heap.size w W) := Lib.hid (by rw [hW]; exact (Below.refl _ _).alloc (Nat.le_refl _) _)
  clear hW
  go_loopg [5, 39] 1 (fun g _ s39 wr => ∃ k : Nat, g = 1 - k ∧ k ≤ 1 ∧ s39 = .int .i64 k ∧ Aside (Below w.heap.size w wr))
  case atStart => exact ⟨0, by omega, by omega, rfl, HB.out⟩
  case round =>
    obtain ⟨k, hg, hk, rfl, A1⟩ := hrel
    have HG := Lib.hid hg
    have HBr := Lib.hid A1.out
    clear hg A1 HB
    by_cases hlt : k < 1
    · have hki : (k : Int) < 1 := by omega
      obtain ⟨⟨x0, x1, x2, x3, x4, x5⟩, ⟨ka, km, kc, hv0⟩, hcl⟩ := HK.out k hlt
      rw [hv0] at x5 hcl
      have HC : Hid (∀ X, Below W0.heap.size W0 X → Calls Tryd.prog 9 #[.agg #[.string (ks k).op, .int .i64 (ks k).val, .string (ks k).nm, .int .i64 (ks k).pos, .int .i64 (ks k).apos, .slice ka km kc]] X fun e w' => e = .returned (.bool true) ∧ Below X.heap.size X w') := Lib.hid (fun X hX => hcl X hX)
      clear hv0 hcl
      have HB0 := Lib.hid (HW0.out wr HBr.out)
      have hc : ∀ j u, W0.cell? ⟨blk, j, none⟩ = some u → wr.cell? ⟨blk, j, none⟩ = some u := fun j u h => cell_kept HB0.out h
      have y0 := hc _ _ x0
      have y1 := hc _ _ x1
      have y2 := hc _ _ x2
      have y3 := hc _ _ x3
      have y4 := hc _ _ x4
      have y5 := hc _ _ x5
      clear hc x0 x1 x2 x3 x4 x5
      go_wp2_with fail
      have hcall := HC.out (wr.alloc (.cells #[.string (ks k).op, .int .i64 (ks k).val, .string (ks k).nm, .int .i64 (ks k).pos, .int .i64 (ks k).apos, .slice ka km kc] 36)) (HB0.out.alloc HB0.out.size _)
      refine hcall.mono ?_
      clear hcall
      rintro e w4 ⟨rfl, hb4⟩
      have HB4 : Hid (Below w.heap.size w w4) := Lib.hid ((HBr.out.alloc HBr.out.size _).trans (hb4.mono (HBr.out.alloc HBr.out.size _).size))
      clear hb4 y0 y1 y2 y3 y4 y5
      go_wp2_with fail
      go_roundg (1 - (k + 1))
      case measure => have := HG.out; omega
      case rel => exact ⟨k + 1, rfl, by omega, by go_num, HB4.out⟩
    · obtain rfl : k = 1 := by omega
      go_wp2_with fail
      go_ret
      exact ⟨rfl, HBr.out⟩

set_option maxRecDepth 100000 in
set_option maxHeartbeats 4000000 in
theorem whole_um (W0 : World) (blk cap0 : Nat) (op nm : ByteArray) (nv p q : Int) (ks : Nat → Tr) (vs0 : Nat → Value) (hks : KidsW W0 blk 1 ks vs0)
    (e0 : (op.toList == [110, 117, 109]) = false) (e1 : (op.toList == [110, 97, 109, 101]) = false) (e2 : (op.toList == [63]) = false) (e3 : (op.toList == [117, 43]) = false) (e4 : (op.toList == [117, 45]) = true) (hz : op.toList.isEmpty = false) (hn : nm.toList.isEmpty = true) (w : World) (hb : Below W0.heap.size W0 w) :
    Calls Tryd.prog 9 #[.agg #[.string op, .int .i64 nv, .string nm, .int .i64 p, .int .i64 q, .slice (some ⟨blk, 0, none⟩) 1 cap0]] w fun e w' => e = .returned (.bool true) ∧ Below w.heap.size w w' := by
  have HK := Lib.hid hks
  have HW0 : Hid (∀ X, Below w.heap.size w X → Below W0.heap.size W0 X) := Lib.hid (fun X hX => hb.trans (hX.mono hb.size))
  clear hks hb
  go_enter Tryd.func9, Tryd.ntmps9
  go_wp2_with fail
  obtain ⟨W, hW⟩ : ∃ W : World, W = w.alloc (.cells #[.string op, .int .i64 nv, .string nm, .int .i64 p, .int .i64 q, .slice (some ⟨blk, 0, none⟩) 1 cap0] 36) := ⟨_, rfl⟩
  rw [← hW]
  have HB : Hid (Below w.heap.size w W) := Lib.hid (by rw [hW]; exact (Below.refl _ _).alloc (Nat.le_refl _) _)
  clear hW
  go_loopg [5, 39] 1 (fun g _ s39 wr => ∃ k : Nat, g = 1 - k ∧ k ≤ 1 ∧ s39 = .int .i64 k ∧ Aside (Below w.heap.size w wr))
  case atStart => exact ⟨0, by omega, by omega, rfl, HB.out⟩
  case round =>
    obtain ⟨k, hg, hk, rfl, A1⟩ := hrel
    have HG := Lib.hid hg
    have HBr := Lib.hid A1.out
    clear hg A1 HB
    by_cases hlt : k < 1
    · have hki : (k : Int) < 1 := by omega
      obtain ⟨⟨x0, x1, x2, x3, x4, x5⟩, ⟨ka, km, kc, hv0⟩, hcl⟩ := HK.out k hlt
      rw [hv0] at x5 hcl
      have HC : Hid (∀ X, Below W0.heap.size W0 X → Calls Tryd.prog 9 #[.agg #[.string (ks k).op, .int .i64 (ks k).val, .string (ks k).nm, .int .i64 (ks k).pos, .int .i64 (ks k).apos, .slice ka km kc]] X fun e w' => e = .returned (.bool true) ∧ Below X.heap.size X w') := Lib.hid (fun X hX => hcl X hX)
      clear hv0 hcl
      have HB0 := Lib.hid (HW0.out wr HBr.out)
      have hc : ∀ j u, W0.cell? ⟨blk, j, none⟩ = some u → wr.cell? ⟨blk, j, none⟩ = some u := fun j u h => cell_kept HB0.out h
      have y0 := hc _ _ x0
      have y1 := hc _ _ x1
      have y2 := hc _ _ x2
      have y3 := hc _ _ x3
      have y4 := hc _ _ x4
      have y5 := hc _ _ x5
      clear hc x0 x1 x2 x3 x4 x5
      go_wp2_with fail
      have hcall := HC.out (wr.alloc (.cells #[.string (ks k).op, .int .i64 (ks k).val, .string (ks k).nm, .int .i64 (ks k).pos, .int .i64 (ks k).apos, .slice ka km kc] 36)) (HB0.out.alloc HB0.out.size _)
      refine hcall.mono ?_
      clear hcall
      rintro e w4 ⟨rfl, hb4⟩
      have HB4 : Hid (Below w.heap.size w w4) := Lib.hid ((HBr.out.alloc HBr.out.size _).trans (hb4.mono (HBr.out.alloc HBr.out.size _).size))
      clear hb4 y0 y1 y2 y3 y4 y5
      go_wp2_with fail
      go_roundg (1 - (k + 1))
      case measure => have := HG.out; omega
      case rel => exact ⟨k + 1, rfl, by omega, by go_num, HB4.out⟩
    · obtain rfl : k = 1 := by omega
      go_wp2_with fail
      go_ret
      exact ⟨rfl, HBr.out⟩

set_option maxRecDepth 100000 in
set_option maxHeartbeats 4000000 in
theorem whole_no (W0 : World) (blk cap0 : Nat) (op nm : ByteArray) (nv p q : Int) (ks : Nat → Tr) (vs0 : Nat → Value) (hks : KidsW W0 blk 1 ks vs0)
    (e0 : (op.toList == [110, 117, 109]) = false) (e1 : (op.toList == [110, 97, 109, 101]) = false) (e2 : (op.toList == [63]) = false) (e3 : (op.toList == [117, 43]) = false) (e4 : (op.toList == [117, 45]) = false) (e5 : (op.toList == [33]) = true) (hz : op.toList.isEmpty = false) (hn : nm.toList.isEmpty = true) (w : World) (hb : Below W0.heap.size W0 w) :
    Calls Tryd.prog 9 #[.agg #[.string op, .int .i64 nv, .string nm, .int .i64 p, .int .i64 q, .slice (some ⟨blk, 0, none⟩) 1 cap0]] w fun e w' => e = .returned (.bool true) ∧ Below w.heap.size w w' := by
  have HK := Lib.hid hks
  have HW0 : Hid (∀ X, Below w.heap.size w X → Below W0.heap.size W0 X) := Lib.hid (fun X hX => hb.trans (hX.mono hb.size))
  clear hks hb
  go_enter Tryd.func9, Tryd.ntmps9
  go_wp2_with fail
  obtain ⟨W, hW⟩ : ∃ W : World, W = w.alloc (.cells #[.string op, .int .i64 nv, .string nm, .int .i64 p, .int .i64 q, .slice (some ⟨blk, 0, none⟩) 1 cap0] 36) := ⟨_, rfl⟩
  rw [← hW]
  have HB : Hid (Below w.heap.size w W) := Lib.hid (by rw [hW]; exact (Below.refl _ _).alloc (Nat.le_refl _) _)
  clear hW
  go_loopg [5, 39] 1 (fun g _ s39 wr => ∃ k : Nat, g = 1 - k ∧ k ≤ 1 ∧ s39 = .int .i64 k ∧ Aside (Below w.heap.size w wr))
  case atStart => exact ⟨0, by omega, by omega, rfl, HB.out⟩
  case round =>
    obtain ⟨k, hg, hk, rfl, A1⟩ := hrel
    have HG := Lib.hid hg
    have HBr := Lib.hid A1.out
    clear hg A1 HB
    by_cases hlt : k < 1
    · have hki : (k : Int) < 1 := by omega
      obtain ⟨⟨x0, x1, x2, x3, x4, x5⟩, ⟨ka, km, kc, hv0⟩, hcl⟩ := HK.out k hlt
      rw [hv0] at x5 hcl
      have HC : Hid (∀ X, Below W0.heap.size W0 X → Calls Tryd.prog 9 #[.agg #[.string (ks k).op, .int .i64 (ks k).val, .string (ks k).nm, .int .i64 (ks k).pos, .int .i64 (ks k).apos, .slice ka km kc]] X fun e w' => e = .returned (.bool true) ∧ Below X.heap.size X w') := Lib.hid (fun X hX => hcl X hX)
      clear hv0 hcl
      have HB0 := Lib.hid (HW0.out wr HBr.out)
      have hc : ∀ j u, W0.cell? ⟨blk, j, none⟩ = some u → wr.cell? ⟨blk, j, none⟩ = some u := fun j u h => cell_kept HB0.out h
      have y0 := hc _ _ x0
      have y1 := hc _ _ x1
      have y2 := hc _ _ x2
      have y3 := hc _ _ x3
      have y4 := hc _ _ x4
      have y5 := hc _ _ x5
      clear hc x0 x1 x2 x3 x4 x5
      go_wp2_with fail
      have hcall := HC.out (wr.alloc (.cells #[.string (ks k).op, .int .i64 (ks k).val, .string (ks k).nm, .int .i64 (ks k).pos, .int .i64 (ks k).apos, .slice ka km kc] 36)) (HB0.out.alloc HB0.out.size _)
      refine hcall.mono ?_
      clear hcall
      rintro e w4 ⟨rfl, hb4⟩
      have HB4 : Hid (Below w.heap.size w w4) := Lib.hid ((HBr.out.alloc HBr.out.size _).trans (hb4.mono (HBr.out.alloc HBr.out.size _).size))
      clear hb4 y0 y1 y2 y3 y4 y5
      go_wp2_with fail
      go_roundg (1 - (k + 1))
      case measure => have := HG.out; omega
      case rel => exact ⟨k + 1, rfl, by omega, by go_num, HB4.out⟩
    · obtain rfl : k = 1 := by omega
      go_wp2_with fail
      go_ret
      exact ⟨rfl, HBr.out⟩

set_option maxRecDepth 100000 in
set_option maxHeartbeats 4000000 in
theorem whole_ti (W0 : World) (blk cap0 : Nat) (op nm : ByteArray) (nv p q : Int) (ks : Nat → Tr) (vs0 : Nat → Value) (hks : KidsW W0 blk 1 ks vs0)
    (e0 : (op.toList == [110, 117, 109]) = false) (e1 : (op.toList == [110, 97, 109, 101]) = false) (e2 : (op.toList == [63]) = false) (e3 : (op.toList == [117, 43]) = false) (e4 : (op.toList == [117, 45]) = false) (e5 : (op.toList == [33]) = false) (e6 : (op.toList == [126]) = true) (hz : op.toList.isEmpty = false) (hn : nm.toList.isEmpty = true) (w : World) (hb : Below W0.heap.size W0 w) :
    Calls Tryd.prog 9 #[.agg #[.string op, .int .i64 nv, .string nm, .int .i64 p, .int .i64 q, .slice (some ⟨blk, 0, none⟩) 1 cap0]] w fun e w' => e = .returned (.bool true) ∧ Below w.heap.size w w' := by
  have HK := Lib.hid hks
  have HW0 : Hid (∀ X, Below w.heap.size w X → Below W0.heap.size W0 X) := Lib.hid (fun X hX => hb.trans (hX.mono hb.size))
  clear hks hb
  go_enter Tryd.func9, Tryd.ntmps9
  go_wp2_with fail
  obtain ⟨W, hW⟩ : ∃ W : World, W = w.alloc (.cells #[.string op, .int .i64 nv, .string nm, .int .i64 p, .int .i64 q, .slice (some ⟨blk, 0, none⟩) 1 cap0] 36) := ⟨_, rfl⟩
  rw [← hW]
  have HB : Hid (Below w.heap.size w W) := Lib.hid (by rw [hW]; exact (Below.refl _ _).alloc (Nat.le_refl _) _)
  clear hW
  go_loopg [5, 39] 1 (fun g _ s39 wr => ∃ k : Nat, g = 1 - k ∧ k ≤ 1 ∧ s39 = .int .i64 k ∧ Aside (Below w.heap.size w wr))
  case atStart => exact ⟨0, by omega, by omega, rfl, HB.out⟩
  case round =>
    obtain ⟨k, hg, hk, rfl, A1⟩ := hrel
    have HG := Lib.hid hg
    have HBr := Lib.hid A1.out
    clear hg A1 HB
    by_cases hlt : k < 1
    · have hki : (k : Int) < 1 := by omega
      obtain ⟨⟨x0, x1, x2, x3, x4, x5⟩, ⟨ka, km, kc, hv0⟩, hcl⟩ := HK.out k hlt
      rw [hv0] at x5 hcl
      have HC : Hid (∀ X, Below W0.heap.size W0 X → Calls Tryd.prog 9 #[.agg #[.string (ks k).op, .int .i64 (ks k).val, .string (ks k).nm, .int .i64 (ks k).pos, .int .i64 (ks k).apos, .slice ka km kc]] X fun e w' => e = .returned (.bool true) ∧ Below X.heap.size X w') := Lib.hid (fun X hX => hcl X hX)
      clear hv0 hcl
      have HB0 := Lib.hid (HW0.out wr HBr.out)
      have hc : ∀ j u, W0.cell? ⟨blk, j, none⟩ = some u → wr.cell? ⟨blk, j, none⟩ = some u := fun j u h => cell_kept HB0.out h
      have y0 := hc _ _ x0
      have y1 := hc _ _ x1
      have y2 := hc _ _ x2
      have y3 := hc _ _ x3
      have y4 := hc _ _ x4
      have y5 := hc _ _ x5
      clear hc x0 x1 x2 x3 x4 x5
      go_wp2_with fail
      have hcall := HC.out (wr.alloc (.cells #[.string (ks k).op, .int .i64 (ks k).val, .string (ks k).nm, .int .i64 (ks k).pos, .int .i64 (ks k).apos, .slice ka km kc] 36)) (HB0.out.alloc HB0.out.size _)
      refine hcall.mono ?_
      clear hcall
      rintro e w4 ⟨rfl, hb4⟩
      have HB4 : Hid (Below w.heap.size w w4) := Lib.hid ((HBr.out.alloc HBr.out.size _).trans (hb4.mono (HBr.out.alloc HBr.out.size _).size))
      clear hb4 y0 y1 y2 y3 y4 y5
      go_wp2_with fail
      go_roundg (1 - (k + 1))
      case measure => have := HG.out; omega
      case rel => exact ⟨k + 1, rfl, by omega, by go_num, HB4.out⟩
    · obtain rfl : k = 1 := by omega
      go_wp2_with fail
      go_ret
      exact ⟨rfl, HBr.out⟩

theorem un_ops : ∀ s ∈ unL, ¬ s = sNum ∧ ¬ s = sName ∧ ¬ s = sQue ∧ ¬ s = sEmpty := by decide
theorem bin_ops : ∀ s ∈ opRows.flatten, (¬ s = sNum ∧ ¬ s = sName ∧ ¬ s = sQue ∧ ¬ s = sEmpty) ∧ ∀ x ∈ unL, ¬ x = s := by decide
theorem asg_ops : ∀ s ∈ opList, asgB s = true → (¬ s = sNum ∧ ¬ s = sName ∧ ¬ s = sQue ∧ ¬ s = sEmpty) ∧ ∀ x ∈ unL, ¬ x = s := by decide
theorem row_memW (s : ByteArray) : ∀ (R : List (List ByteArray)) (k : Nat), 0 < rowFrom s R k → s ∈ R.flatten
  | [], _, h => by simp [rowFrom] at h
  | r :: rs, k, h => by
    unfold rowFrom at h
    by_cases c : r.any (fun x => decide (x = s)) = true
    · obtain ⟨x, hx, e⟩ := List.any_eq_true.1 c
      simp only [decide_eq_true_eq] at e
      subst e
      simp [hx]
    · rw [if_neg c] at h
      have := row_memW s rs (k + 1) h
      simp only [List.flatten_cons, List.mem_append]
      exact Or.inr this

theorem whole_any (W0 : World) (S : Nat → Prop) : ∀ (t : Tr) (kv0 : Value), t.Ops → t.Lay W0 S kv0 → Wholes W0 t kv0
  | .num n p, kv0, _, h => by
    obtain rfl : kv0 = _ := h
    exact whole_num W0 sNum sEmpty n p 0 (tl_yes rfl) (tl_some (by decide)) tl_emp
  | .name s p, kv0, ho, h => by
    obtain rfl : kv0 = _ := h
    exact whole_name W0 sName s 0 p 0 (tl_no (by decide)) (tl_yes rfl) (tl_some (by decide)) (tl_some ho.1)
  | .un op p a, kv0, ho, h => by
    obtain ⟨hop, hao⟩ := ho
    obtain ⟨ka, hr, ha⟩ := h
    have hr' : RowOf W0 S kv0 1 (rowK (k1 a) (v1 ka) 1) := by rw [rowK_1]; exact hr
    obtain ⟨blk, cap, rfl, _, _, hc⟩ := hr'.kids
    have hk : KidsW W0 blk 1 (k1 a) (v1 ka) := fun i hi => ⟨hc i hi, ha.shape, whole_any W0 S a ka hao ha⟩
    obtain ⟨n1, n2, n3, n4⟩ := un_ops op hop
    have f1 := tl_no (l := [110, 117, 109]) n1
    have f2 := tl_no (l := [110, 97, 109, 101]) n2
    have f3 := tl_no (l := [63]) n3
    unfold unL at hop
    simp only [List.mem_cons, List.not_mem_nil, or_false] at hop
    rcases hop with h | h | h | h
    · exact whole_up W0 blk cap op sEmpty 0 p 0 _ _ hk f1 f2 f3 (tl_yes h) (tl_some n4) tl_emp
    · exact whole_um W0 blk cap op sEmpty 0 p 0 _ _ hk f1 f2 f3 (tl_no (by rw [h]; decide)) (tl_yes h) (tl_some n4) tl_emp
    · exact whole_no W0 blk cap op sEmpty 0 p 0 _ _ hk f1 f2 f3 (tl_no (by rw [h]; decide)) (tl_no (by rw [h]; decide)) (tl_yes h) (tl_some n4) tl_emp
    · exact whole_ti W0 blk cap op sEmpty 0 p 0 _ _ hk f1 f2 f3 (tl_no (by rw [h]; decide)) (tl_no (by rw [h]; decide)) (tl_no (by rw [h]; decide)) (tl_yes h) (tl_some n4) tl_emp
  | .bin op p a b, kv0, ho, h => by
    obtain ⟨hop, hao, hbo⟩ := ho
    obtain ⟨ka, kb, hr, ha, hb0⟩ := h
    have hr' : RowOf W0 S kv0 2 (rowK (k2 a b) (v2 ka kb) 2) := by rw [rowK_2]; exact hr
    obtain ⟨blk, cap, rfl, _, _, hc⟩ := hr'.kids
    have hk : KidsW W0 blk 2 (k2 a b) (v2 ka kb) := by
      have ea := whole_any W0 S a ka hao ha
      have eb := whole_any W0 S b kb hbo hb0
      refine fun i hi => ⟨hc i hi, ?_, ?_⟩
      · unfold v2; split
        · exact ha.shape
        · exact hb0.shape
      · unfold k2 v2; split
        · exact ea
        · exact eb
    obtain ⟨⟨n1, n2, n3, n4⟩, hu⟩ := bin_ops op (row_memW op opRows 0 hop)
    exact whole_two W0 blk cap op sEmpty 0 p 0 _ _ hk (tl_no n1) (tl_no n2) (tl_no n3) (tl_no fun e => hu op (by rw [e]; simp [unL]) rfl) (tl_no fun e => hu op (by rw [e]; simp [unL]) rfl) (tl_no fun e => hu op (by rw [e]; simp [unL]) rfl) (tl_no fun e => hu op (by rw [e]; simp [unL]) rfl) (tl_some n4) tl_emp
  | .cond op p a b c, kv0, ho, h => by
    obtain ⟨rfl, hao, hbo, hco⟩ := ho
    obtain ⟨ka, kb, kc, hr, ha, hb0, hc0⟩ := h
    have hr' : RowOf W0 S kv0 3 (rowK (k3 a b c) (v3 ka kb kc) 3) := by rw [rowK_3]; exact hr
    obtain ⟨blk, cap, rfl, _, _, hc⟩ := hr'.kids
    have hk : KidsW W0 blk 3 (k3 a b c) (v3 ka kb kc) := by
      have ea := whole_any W0 S a ka hao ha
      have eb := whole_any W0 S b kb hbo hb0
      have ec := whole_any W0 S c kc hco hc0
      refine fun i hi => ⟨hc i hi, ?_, ?_⟩
      · unfold v3; split
        · exact ha.shape
        · split
          · exact hb0.shape
          · exact hc0.shape
      · unfold k3 v3; split
        · exact ea
        · split
          · exact eb
          · exact ec
    exact whole_que W0 blk cap sQue sEmpty 0 p 0 _ _ hk (tl_no (by decide)) (tl_no (by decide)) (tl_yes rfl) (tl_some (by decide)) tl_emp
  | .asg op s p q a, kv0, ho, h => by
    obtain ⟨hasg, hop, hs, hao⟩ := ho
    obtain ⟨ka, hr, ha⟩ := h
    have hr' : RowOf W0 S kv0 1 (rowK (k1 a) (v1 ka) 1) := by rw [rowK_1]; exact hr
    obtain ⟨blk, cap, rfl, _, _, hc⟩ := hr'.kids
    have hk : KidsW W0 blk 1 (k1 a) (v1 ka) := fun i hi => ⟨hc i hi, ha.shape, whole_any W0 S a ka hao ha⟩
    obtain ⟨⟨n1, n2, n3, n4⟩, hu⟩ := asg_ops op hop hasg
    exact whole_set W0 blk cap op s 0 p q _ _ hk (tl_no n1) (tl_no n2) (tl_no n3) (tl_no fun e => hu op (by rw [e]; simp [unL]) rfl) (tl_no fun e => hu op (by rw [e]; simp [unL]) rfl) (tl_no fun e => hu op (by rw [e]; simp [unL]) rfl) (tl_no fun e => hu op (by rw [e]; simp [unL]) rfl) (tl_some n4) (tl_some hs.1)
end Go.Proofs.YtlmoeldillpamaaDoor
