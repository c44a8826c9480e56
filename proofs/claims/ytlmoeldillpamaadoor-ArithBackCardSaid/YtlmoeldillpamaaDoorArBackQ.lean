/- Proved here: for any bytes the statement on trees that are written with all their parentheses and read again answers true, and its argument reads as before. Conditions: the listed package-level variables read as the program's text lays them (the card ties them). -/
import Derived.Test.YtlmoeldillpamaaDoorArTree
import Derived.Test.YtlmoeldillpamaaDoorArBackM
import Derived.Test.YtlmoeldillpamaaDoorArAwake
import Derived.Test.YtlmoeldillpamaaDoorArSizeT
import Derived.Test.YtlmoeldillpamaaDoorArWhole
import Derived.Test.YtlmoeldillpamaaDoorScOpen
import Derived.Test.YtlmoeldillpamaaDoorArLaid
import Derived.Test.YtlmoeldillpamaaDoorRows
import Derived.StillTailTactics
import Derived.Test.YtlmoeldillpamaaDoorCards
import Derived.Test.YtlmoeldillpamaaDoorTie
import Derived.Lay
import Derived.MakeChecks
import Derived.SizedLaws
import Derived.ProofKit
import Derived.LaidMore
import Derived.Stop.Joined
import Derived.Carry
/- The contract of the law's infix: a tree with all its parentheses. -/
namespace Go.Proofs.YtlmoeldillpamaaDoor
open Go.RowKit

/-- Of a tree that lies with its kids in kv0 infix tells its text with all parentheses. -/
def Infs (W0 : World) (t : Tr) (kv0 : Value) : Prop := ∀ w, Below W0.heap.size W0 w → Calls Tryd.prog 11 #[t.v kv0] w fun e w' => (∃ s, e = .returned (.string s) ∧ bys s = inf t) ∧ Below w.heap.size w w'
theorem bys_appI (s t : ByteArray) : bys (s ++ t) = bys s ++ bys t := by unfold bys; rw [ByteArray.data_append, Array.toList_append, List.map_append]

set_option maxRecDepth 100000 in
set_option maxHeartbeats 8000000 in
theorem infix_not (W0 : World) (blk cap0 : Nat) (op : ByteArray) (p q : Int) (a : Tr) (oa : Option Addr) (ma ca : Nat)
    (xa0 : W0.cell? ⟨blk, 0, none⟩ = some (.string a.op)) (xa1 : W0.cell? ⟨blk, 1, none⟩ = some (.int .i64 a.val)) (xa2 : W0.cell? ⟨blk, 2, none⟩ = some (.string a.nm)) (xa3 : W0.cell? ⟨blk, 3, none⟩ = some (.int .i64 a.pos)) (xa4 : W0.cell? ⟨blk, 4, none⟩ = some (.int .i64 a.apos)) (xa5 : W0.cell? ⟨blk, 5, none⟩ = some (.slice oa ma ca)) (hia : Infs W0 a (.slice oa ma ca)) (la : (inf a).length ≤ 40000)
    (e0 : (op.toList == [110, 117, 109]) = false) (e1 : (op.toList == [110, 97, 109, 101]) = false) (e2 : (op.toList == [63]) = false) (e3 : (op.toList == [117, 43]) = false) (e4 : (op.toList == [117, 45]) = false) (hn : sEmpty.toList.isEmpty = true) (hol : op.size ≤ 3) (w : World) (hb : Below W0.heap.size W0 w) :
    Calls Tryd.prog 11 #[.agg #[.string op, .int .i64 0, .string sEmpty, .int .i64 p, .int .i64 q, .slice (some ⟨blk, 0, none⟩) 1 cap0]] w fun e w' => (∃ s, e = .returned (.string s) ∧ bys s = 40 :: (bys op ++ (inf a ++ [41]))) ∧ Below w.heap.size w w' := by
  have HW0 : Hid (∀ X, Below w.heap.size w X → Below W0.heap.size W0 X) := Lib.hid (fun X hX => hb.trans (hX.mono hb.size))
  have HXa := Lib.hid (And.intro xa0 (And.intro xa1 (And.intro xa2 (And.intro xa3 (And.intro xa4 xa5)))))
  have HCa : Hid (∀ X, Below W0.heap.size W0 X → Calls Tryd.prog 11 #[.agg #[.string a.op, .int .i64 a.val, .string a.nm, .int .i64 a.pos, .int .i64 a.apos, .slice oa ma ca]] X fun e w' => (∃ s, e = .returned (.string s) ∧ bys s = inf a) ∧ Below X.heap.size X w') := Lib.hid (fun X hX => hia X hX)
  clear hb xa0 xa1 xa2 xa3 xa4 xa5 hia
  go_enter Tryd.func11, Tryd.ntmps11
  go_wp2_with fail
  obtain ⟨W, hW⟩ : ∃ W : World, W = w.alloc (.cells #[.string op, .int .i64 0, .string sEmpty, .int .i64 p, .int .i64 q, .slice (some ⟨blk, 0, none⟩) 1 cap0] 36) := ⟨_, rfl⟩
  try rw [← hW]
  have HB : Hid (Below w.heap.size w W.drew) := Lib.hid (by rw [hW]; exact ((Below.refl _ _).alloc (Nat.le_refl _) _).drew)
  have HS : Hid (W.drew.heap[w.heap.size]? = some (.cells #[.string op, .int .i64 0, .string sEmpty, .int .i64 p, .int .i64 q, .slice (some ⟨blk, 0, none⟩) 1 cap0] 36 (0, 0))) := Lib.hid (by rw [hW]; exact heap_alloc_last w _)
  clear hW
  refine wp_region_held (S := fun X => X.heap[w.heap.size]? = some (.cells #[.string op, .int .i64 0, .string sEmpty, .int .i64 p, .int .i64 q, .slice (some ⟨blk, 0, none⟩) 1 cap0] 36 (0, 0)) ∧ Below W0.heap.size W0 X) (by kernel_rfl) ?_
  try (change wpAnyH _ _ _ _ _ _ _ _ (World.drew _))
  have HY : Hid (W.drew.heap[w.heap.size]? = some (.cells #[.string op, .int .i64 0, .string sEmpty, .int .i64 p, .int .i64 q, .slice (some ⟨blk, 0, none⟩) 1 cap0] 36 (0, 0)) ∧ Below W0.heap.size W0 W.drew) := Lib.hid ⟨HS.out, HW0.out _ HB.out⟩
  generalize W.drew = X0 at *
  refine wpAnyH_take (i := 0) (v := .pointer (some ⟨w.heap.size, 0, none⟩)) rfl (by kernel_rfl) (by kernel_rfl) (by kernel_rfl) (fun _ _ _ h => h) (Or.inl ⟨by kernel_rfl, ?_⟩) HY.out ?_
  · intro X hS; obtain ⟨hS1, _⟩ := hS; obtain ⟨⟨z0, z1, z2, z3, z4, z5⟩, _⟩ := six_facts hS1; clear hS1; go_simp
  try simp only [Act.put, List.setIfInBounds_toArray]
  refine wpAnyH_take (i := 1) (v := .string op) rfl (by kernel_rfl) (by kernel_rfl) (by kernel_rfl) (fun _ _ _ h => h) (Or.inl ⟨by kernel_rfl, ?_⟩) HY.out ?_
  · intro X hS; obtain ⟨hS1, _⟩ := hS; obtain ⟨⟨z0, z1, z2, z3, z4, z5⟩, _⟩ := six_facts hS1; clear hS1; go_simp
  try simp only [Act.put]
  refine wpAnyH_take (i := 2) (v := .string (⟨#[40]⟩ ++ op)) rfl (by kernel_rfl) (by kernel_rfl) (by kernel_rfl) (fun _ _ _ h => h) (Or.inl ⟨by kernel_rfl, ?_⟩) HY.out ?_
  · intro X _; have g : 1 + op.size ≤ 9223372036854775807 := by omega
    go_simp
  try simp only [Act.put]
  refine wpAnyH_take (i := 3) (v := .pointer (some ⟨w.heap.size, 5, none⟩)) rfl (by kernel_rfl) (by kernel_rfl) (by kernel_rfl) (fun _ _ _ h => h) (Or.inl ⟨by kernel_rfl, ?_⟩) HY.out ?_
  · intro X hS; obtain ⟨hS1, _⟩ := hS; obtain ⟨⟨z0, z1, z2, z3, z4, z5⟩, _⟩ := six_facts hS1; clear hS1; go_simp
  try simp only [Act.put]
  refine wpAnyH_take (i := 4) (v := .slice (some ⟨blk, 0, none⟩) 1 cap0) rfl (by kernel_rfl) (by kernel_rfl) (by kernel_rfl) (fun _ _ _ h => h) (Or.inl ⟨by kernel_rfl, ?_⟩) HY.out ?_
  · intro X hS; obtain ⟨hS1, _⟩ := hS; obtain ⟨⟨z0, z1, z2, z3, z4, z5⟩, _⟩ := six_facts hS1; clear hS1; go_simp
  try simp only [Act.put]
  refine wpAnyH_take (i := 5) (v := .pointer (some ⟨blk, 0, none⟩)) rfl (by kernel_rfl) (by kernel_rfl) (by kernel_rfl) (fun _ _ _ h => h) (Or.inl ⟨by kernel_rfl, ?_⟩) HY.out ?_
  · intro X hS; obtain ⟨hS1, _⟩ := hS; obtain ⟨⟨z0, z1, z2, z3, z4, z5⟩, _⟩ := six_facts hS1; clear hS1; go_simp
  try simp only [Act.put]
  refine wpAnyH_take (i := 6) (v := .agg #[.string a.op, .int .i64 a.val, .string a.nm, .int .i64 a.pos, .int .i64 a.apos, .slice oa ma ca]) rfl (by kernel_rfl) (by kernel_rfl) (by kernel_rfl) (fun _ _ _ h => h) (Or.inl ⟨by kernel_rfl, ?_⟩) HY.out ?_
  · intro X hS; obtain ⟨_, hS2⟩ := hS; obtain ⟨x0, x1, x2, x3, x4, x5⟩ := HXa.out; have z0 := cell_kept hS2 x0; have z1 := cell_kept hS2 x1; have z2 := cell_kept hS2 x2; have z3 := cell_kept hS2 x3; have z4 := cell_kept hS2 x4; have z5 := cell_kept hS2 x5; clear x0 x1 x2 x3 x4 x5 hS2; go_simp
  try simp only [Act.put]
  refine wpAnyH_all (rs := [7]) (by kernel_rfl) (by simp) ?_
  intro ii hii
  rw [List.mem_singleton] at hii
  subst hii
  refine wpOp_step (by rfl) ?_
  intro K' hK'
  go_simp
  go_at_call 11
  refine (HCa.out X0 HY.out.2).mono ?_
  rintro e Y0 ⟨⟨A, rfl, hs0⟩, hbY⟩
  have HB : Hid (Below w.heap.size w Y0) := Lib.hid (HB.out.trans (hbY.mono HB.out.size))
  have HS : Hid (Y0.heap[w.heap.size]? = some (.cells #[.string op, .int .i64 0, .string sEmpty, .int .i64 p, .int .i64 q, .slice (some ⟨blk, 0, none⟩) 1 cap0] 36 (0, 0))) := Lib.hid ((hbY.block _ (lt_of_heap HS.out)).trans HS.out)
  have HY : Hid (Y0.heap[w.heap.size]? = some (.cells #[.string op, .int .i64 0, .string sEmpty, .int .i64 p, .int .i64 q, .slice (some ⟨blk, 0, none⟩) 1 cap0] 36 (0, 0)) ∧ Below W0.heap.size W0 Y0) := Lib.hid ⟨HS.out, HW0.out _ HB.out⟩
  have sz0 : A.size ≤ 40000 := by rw [← bys_length, hs0]; exact la
  have Hs0 := Lib.hid hs0
  clear hs0 hbY
  refine hK' _ _ ⟨HY.out, ?_⟩
  clear hK'
  refine wpAnyH_take (i := 8) (oi := ⟨some 81, .binOp .add 9 (.tmp 75) (.tmp 80) 9, 9, "more.go:27", _, none⟩) (v := .string (⟨#[40]⟩ ++ op ++ A)) rfl (by kernel_rfl) (by kernel_rfl) (by kernel_rfl) (fun _ _ _ h => h) (Or.inl ⟨by kernel_rfl, ?_⟩) HY.out ?_
  · intro X _; have g : 1 + op.size + A.size ≤ 9223372036854775807 := by omega
    go_simp
  try simp only [Act.put, List.setIfInBounds_toArray, List.set_cons_zero, List.set_cons_succ]
  refine wpAnyH_take (i := 9) (oi := ⟨some 82, .binOp .add 9 (.tmp 81) (.const (.string { data := #[41] })) 9, 9, "more.go:27", _, none⟩) (v := .string (⟨#[40]⟩ ++ op ++ A ++ ⟨#[41]⟩)) rfl (by kernel_rfl) (by kernel_rfl) (by kernel_rfl) (fun _ _ _ h => h) (Or.inl ⟨by kernel_rfl, ?_⟩) HY.out ?_
  · intro X _; have g : 1 + op.size + A.size + 1 ≤ 9223372036854775807 := by omega
    go_simp
  try simp only [Act.put, List.setIfInBounds_toArray, List.set_cons_zero, List.set_cons_succ]
  refine wpAnyH_take (i := 10) (oi := ⟨some 2, .assign (.tmp 82), 9, "more.go:27", _, none⟩) (v := .string (⟨#[40]⟩ ++ op ++ A ++ ⟨#[41]⟩)) rfl (by kernel_rfl) (by kernel_rfl) (by kernel_rfl) (fun _ _ _ h => h) (Or.inl ⟨by kernel_rfl, ?_⟩) HY.out ?_
  · intro X _; go_simp
  try simp only [Act.put, List.setIfInBounds_toArray, List.set_cons_zero, List.set_cons_succ]
  refine wpAnyH_done (by kernel_rfl) ?_ _
  go_wp2_with fail
  go_ret
  refine ⟨⟨_, rfl, ?_⟩, HB.out⟩
  simp only [bys_appI, List.append_assoc]
  rw [Hs0.out]
  rfl

set_option maxRecDepth 100000 in
set_option maxHeartbeats 8000000 in
theorem infix_set (W0 : World) (blk cap0 : Nat) (op : ByteArray) (nm : ByteArray) (p q : Int) (a : Tr) (oa : Option Addr) (ma ca : Nat)
    (xa0 : W0.cell? ⟨blk, 0, none⟩ = some (.string a.op)) (xa1 : W0.cell? ⟨blk, 1, none⟩ = some (.int .i64 a.val)) (xa2 : W0.cell? ⟨blk, 2, none⟩ = some (.string a.nm)) (xa3 : W0.cell? ⟨blk, 3, none⟩ = some (.int .i64 a.pos)) (xa4 : W0.cell? ⟨blk, 4, none⟩ = some (.int .i64 a.apos)) (xa5 : W0.cell? ⟨blk, 5, none⟩ = some (.slice oa ma ca)) (hia : Infs W0 a (.slice oa ma ca)) (la : (inf a).length ≤ 40000)
    (e0 : (op.toList == [110, 117, 109]) = false) (e1 : (op.toList == [110, 97, 109, 101]) = false) (e2 : (op.toList == [63]) = false) (e3 : (op.toList == [117, 43]) = false) (e4 : (op.toList == [117, 45]) = false) (hn : nm.toList.isEmpty = false) (hnl : nm.size ≤ 40000) (hol : op.size ≤ 3) (w : World) (hb : Below W0.heap.size W0 w) :
    Calls Tryd.prog 11 #[.agg #[.string op, .int .i64 0, .string nm, .int .i64 p, .int .i64 q, .slice (some ⟨blk, 0, none⟩) 1 cap0]] w fun e w' => (∃ s, e = .returned (.string s) ∧ bys s = 40 :: (bys nm ++ (bys op ++ (inf a ++ [41])))) ∧ Below w.heap.size w w' := by
  have HW0 : Hid (∀ X, Below w.heap.size w X → Below W0.heap.size W0 X) := Lib.hid (fun X hX => hb.trans (hX.mono hb.size))
  have HXa := Lib.hid (And.intro xa0 (And.intro xa1 (And.intro xa2 (And.intro xa3 (And.intro xa4 xa5)))))
  have HCa : Hid (∀ X, Below W0.heap.size W0 X → Calls Tryd.prog 11 #[.agg #[.string a.op, .int .i64 a.val, .string a.nm, .int .i64 a.pos, .int .i64 a.apos, .slice oa ma ca]] X fun e w' => (∃ s, e = .returned (.string s) ∧ bys s = inf a) ∧ Below X.heap.size X w') := Lib.hid (fun X hX => hia X hX)
  clear hb xa0 xa1 xa2 xa3 xa4 xa5 hia
  go_enter Tryd.func11, Tryd.ntmps11
  go_wp2_with fail
  obtain ⟨W, hW⟩ : ∃ W : World, W = w.alloc (.cells #[.string op, .int .i64 0, .string nm, .int .i64 p, .int .i64 q, .slice (some ⟨blk, 0, none⟩) 1 cap0] 36) := ⟨_, rfl⟩
  try rw [← hW]
  have HB : Hid (Below w.heap.size w W.drew) := Lib.hid (by rw [hW]; exact ((Below.refl _ _).alloc (Nat.le_refl _) _).drew)
  have HS : Hid (W.drew.heap[w.heap.size]? = some (.cells #[.string op, .int .i64 0, .string nm, .int .i64 p, .int .i64 q, .slice (some ⟨blk, 0, none⟩) 1 cap0] 36 (0, 0))) := Lib.hid (by rw [hW]; exact heap_alloc_last w _)
  clear hW
  refine wp_region_held (S := fun X => X.heap[w.heap.size]? = some (.cells #[.string op, .int .i64 0, .string nm, .int .i64 p, .int .i64 q, .slice (some ⟨blk, 0, none⟩) 1 cap0] 36 (0, 0)) ∧ Below W0.heap.size W0 X) (by kernel_rfl) ?_
  try (change wpAnyH _ _ _ _ _ _ _ _ (World.drew _))
  have HY : Hid (W.drew.heap[w.heap.size]? = some (.cells #[.string op, .int .i64 0, .string nm, .int .i64 p, .int .i64 q, .slice (some ⟨blk, 0, none⟩) 1 cap0] 36 (0, 0)) ∧ Below W0.heap.size W0 W.drew) := Lib.hid ⟨HS.out, HW0.out _ HB.out⟩
  generalize W.drew = X0 at *
  refine wpAnyH_take (i := 0) (v := .pointer (some ⟨w.heap.size, 2, none⟩)) rfl (by kernel_rfl) (by kernel_rfl) (by kernel_rfl) (fun _ _ _ h => h) (Or.inl ⟨by kernel_rfl, ?_⟩) HY.out ?_
  · intro X hS; obtain ⟨hS1, _⟩ := hS; obtain ⟨⟨z0, z1, z2, z3, z4, z5⟩, _⟩ := six_facts hS1; clear hS1; go_simp
  try simp only [Act.put, List.setIfInBounds_toArray]
  refine wpAnyH_take (i := 1) (v := .string nm) rfl (by kernel_rfl) (by kernel_rfl) (by kernel_rfl) (fun _ _ _ h => h) (Or.inl ⟨by kernel_rfl, ?_⟩) HY.out ?_
  · intro X hS; obtain ⟨hS1, _⟩ := hS; obtain ⟨⟨z0, z1, z2, z3, z4, z5⟩, _⟩ := six_facts hS1; clear hS1; go_simp
  try simp only [Act.put]
  refine wpAnyH_take (i := 2) (v := .string (⟨#[40]⟩ ++ nm)) rfl (by kernel_rfl) (by kernel_rfl) (by kernel_rfl) (fun _ _ _ h => h) (Or.inl ⟨by kernel_rfl, ?_⟩) HY.out ?_
  · intro X _; have g : 1 + nm.size ≤ 9223372036854775807 := by omega
    go_simp
  try simp only [Act.put]
  refine wpAnyH_take (i := 3) (v := .pointer (some ⟨w.heap.size, 0, none⟩)) rfl (by kernel_rfl) (by kernel_rfl) (by kernel_rfl) (fun _ _ _ h => h) (Or.inl ⟨by kernel_rfl, ?_⟩) HY.out ?_
  · intro X hS; obtain ⟨hS1, _⟩ := hS; obtain ⟨⟨z0, z1, z2, z3, z4, z5⟩, _⟩ := six_facts hS1; clear hS1; go_simp
  try simp only [Act.put]
  refine wpAnyH_take (i := 4) (v := .string op) rfl (by kernel_rfl) (by kernel_rfl) (by kernel_rfl) (fun _ _ _ h => h) (Or.inl ⟨by kernel_rfl, ?_⟩) HY.out ?_
  · intro X hS; obtain ⟨hS1, _⟩ := hS; obtain ⟨⟨z0, z1, z2, z3, z4, z5⟩, _⟩ := six_facts hS1; clear hS1; go_simp
  try simp only [Act.put]
  refine wpAnyH_take (i := 5) (v := .string (⟨#[40]⟩ ++ nm ++ op)) rfl (by kernel_rfl) (by kernel_rfl) (by kernel_rfl) (fun _ _ _ h => h) (Or.inl ⟨by kernel_rfl, ?_⟩) HY.out ?_
  · intro X _; have g : 1 + nm.size + op.size ≤ 9223372036854775807 := by omega
    go_simp
  try simp only [Act.put]
  refine wpAnyH_take (i := 6) (v := .pointer (some ⟨w.heap.size, 5, none⟩)) rfl (by kernel_rfl) (by kernel_rfl) (by kernel_rfl) (fun _ _ _ h => h) (Or.inl ⟨by kernel_rfl, ?_⟩) HY.out ?_
  · intro X hS; obtain ⟨hS1, _⟩ := hS; obtain ⟨⟨z0, z1, z2, z3, z4, z5⟩, _⟩ := six_facts hS1; clear hS1; go_simp
  try simp only [Act.put]
  refine wpAnyH_take (i := 7) (v := .slice (some ⟨blk, 0, none⟩) 1 cap0) rfl (by kernel_rfl) (by kernel_rfl) (by kernel_rfl) (fun _ _ _ h => h) (Or.inl ⟨by kernel_rfl, ?_⟩) HY.out ?_
  · intro X hS; obtain ⟨hS1, _⟩ := hS; obtain ⟨⟨z0, z1, z2, z3, z4, z5⟩, _⟩ := six_facts hS1; clear hS1; go_simp
  try simp only [Act.put]
  refine wpAnyH_take (i := 8) (v := .pointer (some ⟨blk, 0, none⟩)) rfl (by kernel_rfl) (by kernel_rfl) (by kernel_rfl) (fun _ _ _ h => h) (Or.inl ⟨by kernel_rfl, ?_⟩) HY.out ?_
  · intro X hS; obtain ⟨hS1, _⟩ := hS; obtain ⟨⟨z0, z1, z2, z3, z4, z5⟩, _⟩ := six_facts hS1; clear hS1; go_simp
  try simp only [Act.put]
  refine wpAnyH_take (i := 9) (v := .agg #[.string a.op, .int .i64 a.val, .string a.nm, .int .i64 a.pos, .int .i64 a.apos, .slice oa ma ca]) rfl (by kernel_rfl) (by kernel_rfl) (by kernel_rfl) (fun _ _ _ h => h) (Or.inl ⟨by kernel_rfl, ?_⟩) HY.out ?_
  · intro X hS; obtain ⟨_, hS2⟩ := hS; obtain ⟨x0, x1, x2, x3, x4, x5⟩ := HXa.out; have z0 := cell_kept hS2 x0; have z1 := cell_kept hS2 x1; have z2 := cell_kept hS2 x2; have z3 := cell_kept hS2 x3; have z4 := cell_kept hS2 x4; have z5 := cell_kept hS2 x5; clear x0 x1 x2 x3 x4 x5 hS2; go_simp
  try simp only [Act.put]
  refine wpAnyH_all (rs := [10]) (by kernel_rfl) (by simp) ?_
  intro ii hii
  rw [List.mem_singleton] at hii
  subst hii
  refine wpOp_step (by rfl) ?_
  intro K' hK'
  go_simp
  go_at_call 11
  refine (HCa.out X0 HY.out.2).mono ?_
  rintro e Y0 ⟨⟨A, rfl, hs0⟩, hbY⟩
  have HB : Hid (Below w.heap.size w Y0) := Lib.hid (HB.out.trans (hbY.mono HB.out.size))
  have HS : Hid (Y0.heap[w.heap.size]? = some (.cells #[.string op, .int .i64 0, .string nm, .int .i64 p, .int .i64 q, .slice (some ⟨blk, 0, none⟩) 1 cap0] 36 (0, 0))) := Lib.hid ((hbY.block _ (lt_of_heap HS.out)).trans HS.out)
  have HY : Hid (Y0.heap[w.heap.size]? = some (.cells #[.string op, .int .i64 0, .string nm, .int .i64 p, .int .i64 q, .slice (some ⟨blk, 0, none⟩) 1 cap0] 36 (0, 0)) ∧ Below W0.heap.size W0 Y0) := Lib.hid ⟨HS.out, HW0.out _ HB.out⟩
  have sz0 : A.size ≤ 40000 := by rw [← bys_length, hs0]; exact la
  have Hs0 := Lib.hid hs0
  clear hs0 hbY
  refine hK' _ _ ⟨HY.out, ?_⟩
  clear hK'
  refine wpAnyH_take (i := 11) (oi := ⟨some 66, .binOp .add 9 (.tmp 60) (.tmp 65) 9, 9, "more.go:25", _, none⟩) (v := .string (⟨#[40]⟩ ++ nm ++ op ++ A)) rfl (by kernel_rfl) (by kernel_rfl) (by kernel_rfl) (fun _ _ _ h => h) (Or.inl ⟨by kernel_rfl, ?_⟩) HY.out ?_
  · intro X _; have g : 1 + nm.size + op.size + A.size ≤ 9223372036854775807 := by omega
    go_simp
  try simp only [Act.put, List.setIfInBounds_toArray, List.set_cons_zero, List.set_cons_succ]
  refine wpAnyH_take (i := 12) (oi := ⟨some 67, .binOp .add 9 (.tmp 66) (.const (.string { data := #[41] })) 9, 9, "more.go:25", _, none⟩) (v := .string (⟨#[40]⟩ ++ nm ++ op ++ A ++ ⟨#[41]⟩)) rfl (by kernel_rfl) (by kernel_rfl) (by kernel_rfl) (fun _ _ _ h => h) (Or.inl ⟨by kernel_rfl, ?_⟩) HY.out ?_
  · intro X _; have g : 1 + nm.size + op.size + A.size + 1 ≤ 9223372036854775807 := by omega
    go_simp
  try simp only [Act.put, List.setIfInBounds_toArray, List.set_cons_zero, List.set_cons_succ]
  refine wpAnyH_take (i := 13) (oi := ⟨some 2, .assign (.tmp 67), 9, "more.go:25", _, none⟩) (v := .string (⟨#[40]⟩ ++ nm ++ op ++ A ++ ⟨#[41]⟩)) rfl (by kernel_rfl) (by kernel_rfl) (by kernel_rfl) (fun _ _ _ h => h) (Or.inl ⟨by kernel_rfl, ?_⟩) HY.out ?_
  · intro X _; go_simp
  try simp only [Act.put, List.setIfInBounds_toArray, List.set_cons_zero, List.set_cons_succ]
  refine wpAnyH_done (by kernel_rfl) ?_ _
  go_wp2_with fail
  go_ret
  refine ⟨⟨_, rfl, ?_⟩, HB.out⟩
  simp only [bys_appI, List.append_assoc]
  rw [Hs0.out]
  rfl

set_option maxRecDepth 100000 in
set_option maxHeartbeats 8000000 in
theorem infix_two (W0 : World) (blk cap0 : Nat) (op : ByteArray) (p q : Int) (a : Tr) (b : Tr) (oa : Option Addr) (ma ca : Nat) (ob : Option Addr) (mb cb : Nat)
    (xa0 : W0.cell? ⟨blk, 0, none⟩ = some (.string a.op)) (xa1 : W0.cell? ⟨blk, 1, none⟩ = some (.int .i64 a.val)) (xa2 : W0.cell? ⟨blk, 2, none⟩ = some (.string a.nm)) (xa3 : W0.cell? ⟨blk, 3, none⟩ = some (.int .i64 a.pos)) (xa4 : W0.cell? ⟨blk, 4, none⟩ = some (.int .i64 a.apos)) (xa5 : W0.cell? ⟨blk, 5, none⟩ = some (.slice oa ma ca)) (hia : Infs W0 a (.slice oa ma ca)) (la : (inf a).length ≤ 40000) (xb0 : W0.cell? ⟨blk, 6, none⟩ = some (.string b.op)) (xb1 : W0.cell? ⟨blk, 7, none⟩ = some (.int .i64 b.val)) (xb2 : W0.cell? ⟨blk, 8, none⟩ = some (.string b.nm)) (xb3 : W0.cell? ⟨blk, 9, none⟩ = some (.int .i64 b.pos)) (xb4 : W0.cell? ⟨blk, 10, none⟩ = some (.int .i64 b.apos)) (xb5 : W0.cell? ⟨blk, 11, none⟩ = some (.slice ob mb cb)) (hib : Infs W0 b (.slice ob mb cb)) (lb : (inf b).length ≤ 40000)
    (e0 : (op.toList == [110, 117, 109]) = false) (e1 : (op.toList == [110, 97, 109, 101]) = false) (e2 : (op.toList == [63]) = false) (e3 : (op.toList == [117, 43]) = false) (e4 : (op.toList == [117, 45]) = false) (hn : sEmpty.toList.isEmpty = true) (hol : op.size ≤ 3) (w : World) (hb : Below W0.heap.size W0 w) :
    Calls Tryd.prog 11 #[.agg #[.string op, .int .i64 0, .string sEmpty, .int .i64 p, .int .i64 q, .slice (some ⟨blk, 0, none⟩) 2 cap0]] w fun e w' => (∃ s, e = .returned (.string s) ∧ bys s = 40 :: (inf a ++ (bys op ++ (inf b ++ [41])))) ∧ Below w.heap.size w w' := by
  have HW0 : Hid (∀ X, Below w.heap.size w X → Below W0.heap.size W0 X) := Lib.hid (fun X hX => hb.trans (hX.mono hb.size))
  have HXa := Lib.hid (And.intro xa0 (And.intro xa1 (And.intro xa2 (And.intro xa3 (And.intro xa4 xa5)))))
  have HCa : Hid (∀ X, Below W0.heap.size W0 X → Calls Tryd.prog 11 #[.agg #[.string a.op, .int .i64 a.val, .string a.nm, .int .i64 a.pos, .int .i64 a.apos, .slice oa ma ca]] X fun e w' => (∃ s, e = .returned (.string s) ∧ bys s = inf a) ∧ Below X.heap.size X w') := Lib.hid (fun X hX => hia X hX)
  have HXb := Lib.hid (And.intro xb0 (And.intro xb1 (And.intro xb2 (And.intro xb3 (And.intro xb4 xb5)))))
  have HCb : Hid (∀ X, Below W0.heap.size W0 X → Calls Tryd.prog 11 #[.agg #[.string b.op, .int .i64 b.val, .string b.nm, .int .i64 b.pos, .int .i64 b.apos, .slice ob mb cb]] X fun e w' => (∃ s, e = .returned (.string s) ∧ bys s = inf b) ∧ Below X.heap.size X w') := Lib.hid (fun X hX => hib X hX)
  clear hb xa0 xa1 xa2 xa3 xa4 xa5 xb0 xb1 xb2 xb3 xb4 xb5 hia hib
  go_enter Tryd.func11, Tryd.ntmps11
  go_wp2_with fail
  obtain ⟨W, hW⟩ : ∃ W : World, W = w.alloc (.cells #[.string op, .int .i64 0, .string sEmpty, .int .i64 p, .int .i64 q, .slice (some ⟨blk, 0, none⟩) 2 cap0] 36) := ⟨_, rfl⟩
  try rw [← hW]
  have HB : Hid (Below w.heap.size w W.drew) := Lib.hid (by rw [hW]; exact ((Below.refl _ _).alloc (Nat.le_refl _) _).drew)
  have HS : Hid (W.drew.heap[w.heap.size]? = some (.cells #[.string op, .int .i64 0, .string sEmpty, .int .i64 p, .int .i64 q, .slice (some ⟨blk, 0, none⟩) 2 cap0] 36 (0, 0))) := Lib.hid (by rw [hW]; exact heap_alloc_last w _)
  clear hW
  refine wp_region_held (S := fun X => X.heap[w.heap.size]? = some (.cells #[.string op, .int .i64 0, .string sEmpty, .int .i64 p, .int .i64 q, .slice (some ⟨blk, 0, none⟩) 2 cap0] 36 (0, 0)) ∧ Below W0.heap.size W0 X) (by kernel_rfl) ?_
  try (change wpAnyH _ _ _ _ _ _ _ _ (World.drew _))
  have HY : Hid (W.drew.heap[w.heap.size]? = some (.cells #[.string op, .int .i64 0, .string sEmpty, .int .i64 p, .int .i64 q, .slice (some ⟨blk, 0, none⟩) 2 cap0] 36 (0, 0)) ∧ Below W0.heap.size W0 W.drew) := Lib.hid ⟨HS.out, HW0.out _ HB.out⟩
  generalize W.drew = X0 at *
  refine wpAnyH_take (i := 0) (v := .pointer (some ⟨w.heap.size, 5, none⟩)) rfl (by kernel_rfl) (by kernel_rfl) (by kernel_rfl) (fun _ _ _ h => h) (Or.inl ⟨by kernel_rfl, ?_⟩) HY.out ?_
  · intro X hS; obtain ⟨hS1, _⟩ := hS; obtain ⟨⟨z0, z1, z2, z3, z4, z5⟩, _⟩ := six_facts hS1; clear hS1; go_simp
  try simp only [Act.put, List.setIfInBounds_toArray]
  refine wpAnyH_take (i := 1) (v := .slice (some ⟨blk, 0, none⟩) 2 cap0) rfl (by kernel_rfl) (by kernel_rfl) (by kernel_rfl) (fun _ _ _ h => h) (Or.inl ⟨by kernel_rfl, ?_⟩) HY.out ?_
  · intro X hS; obtain ⟨hS1, _⟩ := hS; obtain ⟨⟨z0, z1, z2, z3, z4, z5⟩, _⟩ := six_facts hS1; clear hS1; go_simp
  try simp only [Act.put]
  refine wpAnyH_take (i := 2) (v := .pointer (some ⟨blk, 0, none⟩)) rfl (by kernel_rfl) (by kernel_rfl) (by kernel_rfl) (fun _ _ _ h => h) (Or.inl ⟨by kernel_rfl, ?_⟩) HY.out ?_
  · intro X hS; obtain ⟨hS1, _⟩ := hS; obtain ⟨⟨z0, z1, z2, z3, z4, z5⟩, _⟩ := six_facts hS1; clear hS1; go_simp
  try simp only [Act.put]
  refine wpAnyH_take (i := 3) (v := .agg #[.string a.op, .int .i64 a.val, .string a.nm, .int .i64 a.pos, .int .i64 a.apos, .slice oa ma ca]) rfl (by kernel_rfl) (by kernel_rfl) (by kernel_rfl) (fun _ _ _ h => h) (Or.inl ⟨by kernel_rfl, ?_⟩) HY.out ?_
  · intro X hS; obtain ⟨_, hS2⟩ := hS; obtain ⟨x0, x1, x2, x3, x4, x5⟩ := HXa.out; have z0 := cell_kept hS2 x0; have z1 := cell_kept hS2 x1; have z2 := cell_kept hS2 x2; have z3 := cell_kept hS2 x3; have z4 := cell_kept hS2 x4; have z5 := cell_kept hS2 x5; clear x0 x1 x2 x3 x4 x5 hS2; go_simp
  try simp only [Act.put]
  refine wpAnyH_take (i := 6) (v := .pointer (some ⟨w.heap.size, 0, none⟩)) rfl (by kernel_rfl) (by kernel_rfl) (by kernel_rfl) (fun _ _ _ h => h) (Or.inl ⟨by kernel_rfl, ?_⟩) HY.out ?_
  · intro X hS; obtain ⟨hS1, _⟩ := hS; obtain ⟨⟨z0, z1, z2, z3, z4, z5⟩, _⟩ := six_facts hS1; clear hS1; go_simp
  try simp only [Act.put]
  refine wpAnyH_take (i := 7) (v := .string op) rfl (by kernel_rfl) (by kernel_rfl) (by kernel_rfl) (fun _ _ _ h => h) (Or.inl ⟨by kernel_rfl, ?_⟩) HY.out ?_
  · intro X hS; obtain ⟨hS1, _⟩ := hS; obtain ⟨⟨z0, z1, z2, z3, z4, z5⟩, _⟩ := six_facts hS1; clear hS1; go_simp
  try simp only [Act.put]
  refine wpAnyH_take (i := 9) (v := .pointer (some ⟨w.heap.size, 5, none⟩)) rfl (by kernel_rfl) (by kernel_rfl) (by kernel_rfl) (fun _ _ _ h => h) (Or.inl ⟨by kernel_rfl, ?_⟩) HY.out ?_
  · intro X hS; obtain ⟨hS1, _⟩ := hS; obtain ⟨⟨z0, z1, z2, z3, z4, z5⟩, _⟩ := six_facts hS1; clear hS1; go_simp
  try simp only [Act.put]
  refine wpAnyH_take (i := 10) (v := .slice (some ⟨blk, 0, none⟩) 2 cap0) rfl (by kernel_rfl) (by kernel_rfl) (by kernel_rfl) (fun _ _ _ h => h) (Or.inl ⟨by kernel_rfl, ?_⟩) HY.out ?_
  · intro X hS; obtain ⟨hS1, _⟩ := hS; obtain ⟨⟨z0, z1, z2, z3, z4, z5⟩, _⟩ := six_facts hS1; clear hS1; go_simp
  try simp only [Act.put]
  refine wpAnyH_take (i := 11) (v := .pointer (some ⟨blk, 6, none⟩)) rfl (by kernel_rfl) (by kernel_rfl) (by kernel_rfl) (fun _ _ _ h => h) (Or.inl ⟨by kernel_rfl, ?_⟩) HY.out ?_
  · intro X hS; obtain ⟨hS1, _⟩ := hS; obtain ⟨⟨z0, z1, z2, z3, z4, z5⟩, _⟩ := six_facts hS1; clear hS1; go_simp
  try simp only [Act.put]
  refine wpAnyH_take (i := 12) (v := .agg #[.string b.op, .int .i64 b.val, .string b.nm, .int .i64 b.pos, .int .i64 b.apos, .slice ob mb cb]) rfl (by kernel_rfl) (by kernel_rfl) (by kernel_rfl) (fun _ _ _ h => h) (Or.inl ⟨by kernel_rfl, ?_⟩) HY.out ?_
  · intro X hS; obtain ⟨_, hS2⟩ := hS; obtain ⟨x0, x1, x2, x3, x4, x5⟩ := HXb.out; have z0 := cell_kept hS2 x0; have z1 := cell_kept hS2 x1; have z2 := cell_kept hS2 x2; have z3 := cell_kept hS2 x3; have z4 := cell_kept hS2 x4; have z5 := cell_kept hS2 x5; clear x0 x1 x2 x3 x4 x5 hS2; go_simp
  try simp only [Act.put]
  refine wpAnyH_all (rs := [4]) (by kernel_rfl) (by simp) ?_
  intro ii hii
  rw [List.mem_singleton] at hii
  subst hii
  refine wpOp_step (by rfl) ?_
  intro K' hK'
  go_simp
  go_at_call 11
  refine (HCa.out X0 HY.out.2).mono ?_
  rintro e Y0 ⟨⟨A, rfl, hs0⟩, hbY⟩
  have HB : Hid (Below w.heap.size w Y0) := Lib.hid (HB.out.trans (hbY.mono HB.out.size))
  have HS : Hid (Y0.heap[w.heap.size]? = some (.cells #[.string op, .int .i64 0, .string sEmpty, .int .i64 p, .int .i64 q, .slice (some ⟨blk, 0, none⟩) 2 cap0] 36 (0, 0))) := Lib.hid ((hbY.block _ (lt_of_heap HS.out)).trans HS.out)
  have HY : Hid (Y0.heap[w.heap.size]? = some (.cells #[.string op, .int .i64 0, .string sEmpty, .int .i64 p, .int .i64 q, .slice (some ⟨blk, 0, none⟩) 2 cap0] 36 (0, 0)) ∧ Below W0.heap.size W0 Y0) := Lib.hid ⟨HS.out, HW0.out _ HB.out⟩
  have sz0 : A.size ≤ 40000 := by rw [← bys_length, hs0]; exact la
  have Hs0 := Lib.hid hs0
  clear hs0 hbY
  refine hK' _ _ ⟨HY.out, ?_⟩
  clear hK'
  refine wpAnyH_take (i := 5) (oi := ⟨some 88, .binOp .add 9 (.const (.string { data := #[40] })) (.tmp 87) 9, 9, "more.go:29", _, none⟩) (v := .string (⟨#[40]⟩ ++ A)) rfl (by kernel_rfl) (by kernel_rfl) (by kernel_rfl) (fun _ _ _ h => h) (Or.inl ⟨by kernel_rfl, ?_⟩) HY.out ?_
  · intro X _; have g : 1 + A.size ≤ 9223372036854775807 := by omega
    go_simp
  try simp only [Act.put, List.setIfInBounds_toArray, List.set_cons_zero, List.set_cons_succ]
  refine wpAnyH_take (i := 8) (oi := ⟨some 91, .binOp .add 9 (.tmp 88) (.tmp 90) 9, 9, "more.go:29", _, none⟩) (v := .string (⟨#[40]⟩ ++ A ++ op)) rfl (by kernel_rfl) (by kernel_rfl) (by kernel_rfl) (fun _ _ _ h => h) (Or.inl ⟨by kernel_rfl, ?_⟩) HY.out ?_
  · intro X _; have g : 1 + A.size + op.size ≤ 9223372036854775807 := by omega
    go_simp
  try simp only [Act.put, List.setIfInBounds_toArray, List.set_cons_zero, List.set_cons_succ]
  refine wpAnyH_all (rs := [13]) (by kernel_rfl) (by simp) ?_
  intro ii hii
  rw [List.mem_singleton] at hii
  subst hii
  refine wpOp_step (by rfl) ?_
  intro K' hK'
  go_simp
  go_at_call 11
  refine (HCb.out Y0 HY.out.2).mono ?_
  rintro e Y1 ⟨⟨B, rfl, hs1⟩, hbY⟩
  have HB : Hid (Below w.heap.size w Y1) := Lib.hid (HB.out.trans (hbY.mono HB.out.size))
  have HS : Hid (Y1.heap[w.heap.size]? = some (.cells #[.string op, .int .i64 0, .string sEmpty, .int .i64 p, .int .i64 q, .slice (some ⟨blk, 0, none⟩) 2 cap0] 36 (0, 0))) := Lib.hid ((hbY.block _ (lt_of_heap HS.out)).trans HS.out)
  have HY : Hid (Y1.heap[w.heap.size]? = some (.cells #[.string op, .int .i64 0, .string sEmpty, .int .i64 p, .int .i64 q, .slice (some ⟨blk, 0, none⟩) 2 cap0] 36 (0, 0)) ∧ Below W0.heap.size W0 Y1) := Lib.hid ⟨HS.out, HW0.out _ HB.out⟩
  have sz1 : B.size ≤ 40000 := by rw [← bys_length, hs1]; exact lb
  have Hs1 := Lib.hid hs1
  clear hs1 hbY
  refine hK' _ _ ⟨HY.out, ?_⟩
  clear hK'
  refine wpAnyH_take (i := 14) (oi := ⟨some 97, .binOp .add 9 (.tmp 91) (.tmp 96) 9, 9, "more.go:29", _, none⟩) (v := .string (⟨#[40]⟩ ++ A ++ op ++ B)) rfl (by kernel_rfl) (by kernel_rfl) (by kernel_rfl) (fun _ _ _ h => h) (Or.inl ⟨by kernel_rfl, ?_⟩) HY.out ?_
  · intro X _; have g : 1 + A.size + op.size + B.size ≤ 9223372036854775807 := by omega
    go_simp
  try simp only [Act.put, List.setIfInBounds_toArray, List.set_cons_zero, List.set_cons_succ]
  refine wpAnyH_take (i := 15) (oi := ⟨some 98, .binOp .add 9 (.tmp 97) (.const (.string { data := #[41] })) 9, 9, "more.go:29", _, none⟩) (v := .string (⟨#[40]⟩ ++ A ++ op ++ B ++ ⟨#[41]⟩)) rfl (by kernel_rfl) (by kernel_rfl) (by kernel_rfl) (fun _ _ _ h => h) (Or.inl ⟨by kernel_rfl, ?_⟩) HY.out ?_
  · intro X _; have g : 1 + A.size + op.size + B.size + 1 ≤ 9223372036854775807 := by omega
    go_simp
  try simp only [Act.put, List.setIfInBounds_toArray, List.set_cons_zero, List.set_cons_succ]
  refine wpAnyH_take (i := 16) (oi := ⟨some 2, .assign (.tmp 98), 9, "more.go:29", _, none⟩) (v := .string (⟨#[40]⟩ ++ A ++ op ++ B ++ ⟨#[41]⟩)) rfl (by kernel_rfl) (by kernel_rfl) (by kernel_rfl) (fun _ _ _ h => h) (Or.inl ⟨by kernel_rfl, ?_⟩) HY.out ?_
  · intro X _; go_simp
  try simp only [Act.put, List.setIfInBounds_toArray, List.set_cons_zero, List.set_cons_succ]
  refine wpAnyH_done (by kernel_rfl) ?_ _
  go_wp2_with fail
  go_ret
  refine ⟨⟨_, rfl, ?_⟩, HB.out⟩
  simp only [bys_appI, List.append_assoc]
  rw [Hs0.out, Hs1.out]
  rfl

set_option maxRecDepth 100000 in
set_option maxHeartbeats 8000000 in
theorem infix_que (W0 : World) (blk cap0 : Nat) (op : ByteArray) (p q : Int) (a : Tr) (b : Tr) (c : Tr) (oa : Option Addr) (ma ca : Nat) (ob : Option Addr) (mb cb : Nat) (oc : Option Addr) (mc cc : Nat)
    (xa0 : W0.cell? ⟨blk, 0, none⟩ = some (.string a.op)) (xa1 : W0.cell? ⟨blk, 1, none⟩ = some (.int .i64 a.val)) (xa2 : W0.cell? ⟨blk, 2, none⟩ = some (.string a.nm)) (xa3 : W0.cell? ⟨blk, 3, none⟩ = some (.int .i64 a.pos)) (xa4 : W0.cell? ⟨blk, 4, none⟩ = some (.int .i64 a.apos)) (xa5 : W0.cell? ⟨blk, 5, none⟩ = some (.slice oa ma ca)) (hia : Infs W0 a (.slice oa ma ca)) (la : (inf a).length ≤ 40000) (xb0 : W0.cell? ⟨blk, 6, none⟩ = some (.string b.op)) (xb1 : W0.cell? ⟨blk, 7, none⟩ = some (.int .i64 b.val)) (xb2 : W0.cell? ⟨blk, 8, none⟩ = some (.string b.nm)) (xb3 : W0.cell? ⟨blk, 9, none⟩ = some (.int .i64 b.pos)) (xb4 : W0.cell? ⟨blk, 10, none⟩ = some (.int .i64 b.apos)) (xb5 : W0.cell? ⟨blk, 11, none⟩ = some (.slice ob mb cb)) (hib : Infs W0 b (.slice ob mb cb)) (lb : (inf b).length ≤ 40000) (xc0 : W0.cell? ⟨blk, 12, none⟩ = some (.string c.op)) (xc1 : W0.cell? ⟨blk, 13, none⟩ = some (.int .i64 c.val)) (xc2 : W0.cell? ⟨blk, 14, none⟩ = some (.string c.nm)) (xc3 : W0.cell? ⟨blk, 15, none⟩ = some (.int .i64 c.pos)) (xc4 : W0.cell? ⟨blk, 16, none⟩ = some (.int .i64 c.apos)) (xc5 : W0.cell? ⟨blk, 17, none⟩ = some (.slice oc mc cc)) (hic : Infs W0 c (.slice oc mc cc)) (lc : (inf c).length ≤ 40000)
    (e0 : (op.toList == [110, 117, 109]) = false) (e1 : (op.toList == [110, 97, 109, 101]) = false) (e2 : (op.toList == [63]) = true)  (w : World) (hb : Below W0.heap.size W0 w) :
    Calls Tryd.prog 11 #[.agg #[.string op, .int .i64 0, .string sEmpty, .int .i64 p, .int .i64 q, .slice (some ⟨blk, 0, none⟩) 3 cap0]] w fun e w' => (∃ s, e = .returned (.string s) ∧ bys s = 40 :: (inf a ++ (63 :: (inf b ++ (58 :: (inf c ++ [41])))))) ∧ Below w.heap.size w w' := by
  have HW0 : Hid (∀ X, Below w.heap.size w X → Below W0.heap.size W0 X) := Lib.hid (fun X hX => hb.trans (hX.mono hb.size))
  have HXa := Lib.hid (And.intro xa0 (And.intro xa1 (And.intro xa2 (And.intro xa3 (And.intro xa4 xa5)))))
  have HCa : Hid (∀ X, Below W0.heap.size W0 X → Calls Tryd.prog 11 #[.agg #[.string a.op, .int .i64 a.val, .string a.nm, .int .i64 a.pos, .int .i64 a.apos, .slice oa ma ca]] X fun e w' => (∃ s, e = .returned (.string s) ∧ bys s = inf a) ∧ Below X.heap.size X w') := Lib.hid (fun X hX => hia X hX)
  have HXb := Lib.hid (And.intro xb0 (And.intro xb1 (And.intro xb2 (And.intro xb3 (And.intro xb4 xb5)))))
  have HCb : Hid (∀ X, Below W0.heap.size W0 X → Calls Tryd.prog 11 #[.agg #[.string b.op, .int .i64 b.val, .string b.nm, .int .i64 b.pos, .int .i64 b.apos, .slice ob mb cb]] X fun e w' => (∃ s, e = .returned (.string s) ∧ bys s = inf b) ∧ Below X.heap.size X w') := Lib.hid (fun X hX => hib X hX)
  have HXc := Lib.hid (And.intro xc0 (And.intro xc1 (And.intro xc2 (And.intro xc3 (And.intro xc4 xc5)))))
  have HCc : Hid (∀ X, Below W0.heap.size W0 X → Calls Tryd.prog 11 #[.agg #[.string c.op, .int .i64 c.val, .string c.nm, .int .i64 c.pos, .int .i64 c.apos, .slice oc mc cc]] X fun e w' => (∃ s, e = .returned (.string s) ∧ bys s = inf c) ∧ Below X.heap.size X w') := Lib.hid (fun X hX => hic X hX)
  clear hb xa0 xa1 xa2 xa3 xa4 xa5 xb0 xb1 xb2 xb3 xb4 xb5 xc0 xc1 xc2 xc3 xc4 xc5 hia hib hic
  go_enter Tryd.func11, Tryd.ntmps11
  go_wp2_with fail
  obtain ⟨W, hW⟩ : ∃ W : World, W = w.alloc (.cells #[.string op, .int .i64 0, .string sEmpty, .int .i64 p, .int .i64 q, .slice (some ⟨blk, 0, none⟩) 3 cap0] 36) := ⟨_, rfl⟩
  try rw [← hW]
  have HB : Hid (Below w.heap.size w W.drew) := Lib.hid (by rw [hW]; exact ((Below.refl _ _).alloc (Nat.le_refl _) _).drew)
  have HS : Hid (W.drew.heap[w.heap.size]? = some (.cells #[.string op, .int .i64 0, .string sEmpty, .int .i64 p, .int .i64 q, .slice (some ⟨blk, 0, none⟩) 3 cap0] 36 (0, 0))) := Lib.hid (by rw [hW]; exact heap_alloc_last w _)
  clear hW
  refine wp_region_held (S := fun X => X.heap[w.heap.size]? = some (.cells #[.string op, .int .i64 0, .string sEmpty, .int .i64 p, .int .i64 q, .slice (some ⟨blk, 0, none⟩) 3 cap0] 36 (0, 0)) ∧ Below W0.heap.size W0 X) (by kernel_rfl) ?_
  try (change wpAnyH _ _ _ _ _ _ _ _ (World.drew _))
  have HY : Hid (W.drew.heap[w.heap.size]? = some (.cells #[.string op, .int .i64 0, .string sEmpty, .int .i64 p, .int .i64 q, .slice (some ⟨blk, 0, none⟩) 3 cap0] 36 (0, 0)) ∧ Below W0.heap.size W0 W.drew) := Lib.hid ⟨HS.out, HW0.out _ HB.out⟩
  generalize W.drew = X0 at *
  refine wpAnyH_take (i := 0) (v := .pointer (some ⟨w.heap.size, 5, none⟩)) rfl (by kernel_rfl) (by kernel_rfl) (by kernel_rfl) (fun _ _ _ h => h) (Or.inl ⟨by kernel_rfl, ?_⟩) HY.out ?_
  · intro X hS; obtain ⟨hS1, _⟩ := hS; obtain ⟨⟨z0, z1, z2, z3, z4, z5⟩, _⟩ := six_facts hS1; clear hS1; go_simp
  try simp only [Act.put, List.setIfInBounds_toArray]
  refine wpAnyH_take (i := 1) (v := .slice (some ⟨blk, 0, none⟩) 3 cap0) rfl (by kernel_rfl) (by kernel_rfl) (by kernel_rfl) (fun _ _ _ h => h) (Or.inl ⟨by kernel_rfl, ?_⟩) HY.out ?_
  · intro X hS; obtain ⟨hS1, _⟩ := hS; obtain ⟨⟨z0, z1, z2, z3, z4, z5⟩, _⟩ := six_facts hS1; clear hS1; go_simp
  try simp only [Act.put]
  refine wpAnyH_take (i := 2) (v := .pointer (some ⟨blk, 0, none⟩)) rfl (by kernel_rfl) (by kernel_rfl) (by kernel_rfl) (fun _ _ _ h => h) (Or.inl ⟨by kernel_rfl, ?_⟩) HY.out ?_
  · intro X hS; obtain ⟨hS1, _⟩ := hS; obtain ⟨⟨z0, z1, z2, z3, z4, z5⟩, _⟩ := six_facts hS1; clear hS1; go_simp
  try simp only [Act.put]
  refine wpAnyH_take (i := 3) (v := .agg #[.string a.op, .int .i64 a.val, .string a.nm, .int .i64 a.pos, .int .i64 a.apos, .slice oa ma ca]) rfl (by kernel_rfl) (by kernel_rfl) (by kernel_rfl) (fun _ _ _ h => h) (Or.inl ⟨by kernel_rfl, ?_⟩) HY.out ?_
  · intro X hS; obtain ⟨_, hS2⟩ := hS; obtain ⟨x0, x1, x2, x3, x4, x5⟩ := HXa.out; have z0 := cell_kept hS2 x0; have z1 := cell_kept hS2 x1; have z2 := cell_kept hS2 x2; have z3 := cell_kept hS2 x3; have z4 := cell_kept hS2 x4; have z5 := cell_kept hS2 x5; clear x0 x1 x2 x3 x4 x5 hS2; go_simp
  try simp only [Act.put]
  refine wpAnyH_take (i := 7) (v := .pointer (some ⟨w.heap.size, 5, none⟩)) rfl (by kernel_rfl) (by kernel_rfl) (by kernel_rfl) (fun _ _ _ h => h) (Or.inl ⟨by kernel_rfl, ?_⟩) HY.out ?_
  · intro X hS; obtain ⟨hS1, _⟩ := hS; obtain ⟨⟨z0, z1, z2, z3, z4, z5⟩, _⟩ := six_facts hS1; clear hS1; go_simp
  try simp only [Act.put]
  refine wpAnyH_take (i := 8) (v := .slice (some ⟨blk, 0, none⟩) 3 cap0) rfl (by kernel_rfl) (by kernel_rfl) (by kernel_rfl) (fun _ _ _ h => h) (Or.inl ⟨by kernel_rfl, ?_⟩) HY.out ?_
  · intro X hS; obtain ⟨hS1, _⟩ := hS; obtain ⟨⟨z0, z1, z2, z3, z4, z5⟩, _⟩ := six_facts hS1; clear hS1; go_simp
  try simp only [Act.put]
  refine wpAnyH_take (i := 9) (v := .pointer (some ⟨blk, 6, none⟩)) rfl (by kernel_rfl) (by kernel_rfl) (by kernel_rfl) (fun _ _ _ h => h) (Or.inl ⟨by kernel_rfl, ?_⟩) HY.out ?_
  · intro X hS; obtain ⟨hS1, _⟩ := hS; obtain ⟨⟨z0, z1, z2, z3, z4, z5⟩, _⟩ := six_facts hS1; clear hS1; go_simp
  try simp only [Act.put]
  refine wpAnyH_take (i := 10) (v := .agg #[.string b.op, .int .i64 b.val, .string b.nm, .int .i64 b.pos, .int .i64 b.apos, .slice ob mb cb]) rfl (by kernel_rfl) (by kernel_rfl) (by kernel_rfl) (fun _ _ _ h => h) (Or.inl ⟨by kernel_rfl, ?_⟩) HY.out ?_
  · intro X hS; obtain ⟨_, hS2⟩ := hS; obtain ⟨x0, x1, x2, x3, x4, x5⟩ := HXb.out; have z0 := cell_kept hS2 x0; have z1 := cell_kept hS2 x1; have z2 := cell_kept hS2 x2; have z3 := cell_kept hS2 x3; have z4 := cell_kept hS2 x4; have z5 := cell_kept hS2 x5; clear x0 x1 x2 x3 x4 x5 hS2; go_simp
  try simp only [Act.put]
  refine wpAnyH_take (i := 14) (v := .pointer (some ⟨w.heap.size, 5, none⟩)) rfl (by kernel_rfl) (by kernel_rfl) (by kernel_rfl) (fun _ _ _ h => h) (Or.inl ⟨by kernel_rfl, ?_⟩) HY.out ?_
  · intro X hS; obtain ⟨hS1, _⟩ := hS; obtain ⟨⟨z0, z1, z2, z3, z4, z5⟩, _⟩ := six_facts hS1; clear hS1; go_simp
  try simp only [Act.put]
  refine wpAnyH_take (i := 15) (v := .slice (some ⟨blk, 0, none⟩) 3 cap0) rfl (by kernel_rfl) (by kernel_rfl) (by kernel_rfl) (fun _ _ _ h => h) (Or.inl ⟨by kernel_rfl, ?_⟩) HY.out ?_
  · intro X hS; obtain ⟨hS1, _⟩ := hS; obtain ⟨⟨z0, z1, z2, z3, z4, z5⟩, _⟩ := six_facts hS1; clear hS1; go_simp
  try simp only [Act.put]
  refine wpAnyH_take (i := 16) (v := .pointer (some ⟨blk, 12, none⟩)) rfl (by kernel_rfl) (by kernel_rfl) (by kernel_rfl) (fun _ _ _ h => h) (Or.inl ⟨by kernel_rfl, ?_⟩) HY.out ?_
  · intro X hS; obtain ⟨hS1, _⟩ := hS; obtain ⟨⟨z0, z1, z2, z3, z4, z5⟩, _⟩ := six_facts hS1; clear hS1; go_simp
  try simp only [Act.put]
  refine wpAnyH_take (i := 17) (v := .agg #[.string c.op, .int .i64 c.val, .string c.nm, .int .i64 c.pos, .int .i64 c.apos, .slice oc mc cc]) rfl (by kernel_rfl) (by kernel_rfl) (by kernel_rfl) (fun _ _ _ h => h) (Or.inl ⟨by kernel_rfl, ?_⟩) HY.out ?_
  · intro X hS; obtain ⟨_, hS2⟩ := hS; obtain ⟨x0, x1, x2, x3, x4, x5⟩ := HXc.out; have z0 := cell_kept hS2 x0; have z1 := cell_kept hS2 x1; have z2 := cell_kept hS2 x2; have z3 := cell_kept hS2 x3; have z4 := cell_kept hS2 x4; have z5 := cell_kept hS2 x5; clear x0 x1 x2 x3 x4 x5 hS2; go_simp
  try simp only [Act.put]
  refine wpAnyH_all (rs := [4]) (by kernel_rfl) (by simp) ?_
  intro ii hii
  rw [List.mem_singleton] at hii
  subst hii
  refine wpOp_step (by rfl) ?_
  intro K' hK'
  go_simp
  go_at_call 11
  refine (HCa.out X0 HY.out.2).mono ?_
  rintro e Y0 ⟨⟨A, rfl, hs0⟩, hbY⟩
  have HB : Hid (Below w.heap.size w Y0) := Lib.hid (HB.out.trans (hbY.mono HB.out.size))
  have HS : Hid (Y0.heap[w.heap.size]? = some (.cells #[.string op, .int .i64 0, .string sEmpty, .int .i64 p, .int .i64 q, .slice (some ⟨blk, 0, none⟩) 3 cap0] 36 (0, 0))) := Lib.hid ((hbY.block _ (lt_of_heap HS.out)).trans HS.out)
  have HY : Hid (Y0.heap[w.heap.size]? = some (.cells #[.string op, .int .i64 0, .string sEmpty, .int .i64 p, .int .i64 q, .slice (some ⟨blk, 0, none⟩) 3 cap0] 36 (0, 0)) ∧ Below W0.heap.size W0 Y0) := Lib.hid ⟨HS.out, HW0.out _ HB.out⟩
  have sz0 : A.size ≤ 40000 := by rw [← bys_length, hs0]; exact la
  have Hs0 := Lib.hid hs0
  clear hs0 hbY
  refine hK' _ _ ⟨HY.out, ?_⟩
  clear hK'
  refine wpAnyH_take (i := 5) (oi := ⟨some 21, .binOp .add 9 (.const (.string { data := #[40] })) (.tmp 20) 9, 9, "more.go:19", _, none⟩) (v := .string (⟨#[40]⟩ ++ A)) rfl (by kernel_rfl) (by kernel_rfl) (by kernel_rfl) (fun _ _ _ h => h) (Or.inl ⟨by kernel_rfl, ?_⟩) HY.out ?_
  · intro X _; have g : 1 + A.size ≤ 9223372036854775807 := by omega
    go_simp
  try simp only [Act.put, List.setIfInBounds_toArray, List.set_cons_zero, List.set_cons_succ]
  refine wpAnyH_take (i := 6) (oi := ⟨some 22, .binOp .add 9 (.tmp 21) (.const (.string { data := #[63] })) 9, 9, "more.go:19", _, none⟩) (v := .string (⟨#[40]⟩ ++ A ++ ⟨#[63]⟩)) rfl (by kernel_rfl) (by kernel_rfl) (by kernel_rfl) (fun _ _ _ h => h) (Or.inl ⟨by kernel_rfl, ?_⟩) HY.out ?_
  · intro X _; have g : 1 + A.size + 1 ≤ 9223372036854775807 := by omega
    go_simp
  try simp only [Act.put, List.setIfInBounds_toArray, List.set_cons_zero, List.set_cons_succ]
  refine wpAnyH_all (rs := [11]) (by kernel_rfl) (by simp) ?_
  intro ii hii
  rw [List.mem_singleton] at hii
  subst hii
  refine wpOp_step (by rfl) ?_
  intro K' hK'
  go_simp
  go_at_call 11
  refine (HCb.out Y0 HY.out.2).mono ?_
  rintro e Y1 ⟨⟨B, rfl, hs1⟩, hbY⟩
  have HB : Hid (Below w.heap.size w Y1) := Lib.hid (HB.out.trans (hbY.mono HB.out.size))
  have HS : Hid (Y1.heap[w.heap.size]? = some (.cells #[.string op, .int .i64 0, .string sEmpty, .int .i64 p, .int .i64 q, .slice (some ⟨blk, 0, none⟩) 3 cap0] 36 (0, 0))) := Lib.hid ((hbY.block _ (lt_of_heap HS.out)).trans HS.out)
  have HY : Hid (Y1.heap[w.heap.size]? = some (.cells #[.string op, .int .i64 0, .string sEmpty, .int .i64 p, .int .i64 q, .slice (some ⟨blk, 0, none⟩) 3 cap0] 36 (0, 0)) ∧ Below W0.heap.size W0 Y1) := Lib.hid ⟨HS.out, HW0.out _ HB.out⟩
  have sz1 : B.size ≤ 40000 := by rw [← bys_length, hs1]; exact lb
  have Hs1 := Lib.hid hs1
  clear hs1 hbY
  refine hK' _ _ ⟨HY.out, ?_⟩
  clear hK'
  refine wpAnyH_take (i := 12) (oi := ⟨some 28, .binOp .add 9 (.tmp 22) (.tmp 27) 9, 9, "more.go:19", _, none⟩) (v := .string (⟨#[40]⟩ ++ A ++ ⟨#[63]⟩ ++ B)) rfl (by kernel_rfl) (by kernel_rfl) (by kernel_rfl) (fun _ _ _ h => h) (Or.inl ⟨by kernel_rfl, ?_⟩) HY.out ?_
  · intro X _; have g : 1 + A.size + 1 + B.size ≤ 9223372036854775807 := by omega
    go_simp
  try simp only [Act.put, List.setIfInBounds_toArray, List.set_cons_zero, List.set_cons_succ]
  refine wpAnyH_take (i := 13) (oi := ⟨some 29, .binOp .add 9 (.tmp 28) (.const (.string { data := #[58] })) 9, 9, "more.go:19", _, none⟩) (v := .string (⟨#[40]⟩ ++ A ++ ⟨#[63]⟩ ++ B ++ ⟨#[58]⟩)) rfl (by kernel_rfl) (by kernel_rfl) (by kernel_rfl) (fun _ _ _ h => h) (Or.inl ⟨by kernel_rfl, ?_⟩) HY.out ?_
  · intro X _; have g : 1 + A.size + 1 + B.size + 1 ≤ 9223372036854775807 := by omega
    go_simp
  try simp only [Act.put, List.setIfInBounds_toArray, List.set_cons_zero, List.set_cons_succ]
  refine wpAnyH_all (rs := [18]) (by kernel_rfl) (by simp) ?_
  intro ii hii
  rw [List.mem_singleton] at hii
  subst hii
  refine wpOp_step (by rfl) ?_
  intro K' hK'
  go_simp
  go_at_call 11
  refine (HCc.out Y1 HY.out.2).mono ?_
  rintro e Y2 ⟨⟨C, rfl, hs2⟩, hbY⟩
  have HB : Hid (Below w.heap.size w Y2) := Lib.hid (HB.out.trans (hbY.mono HB.out.size))
  have HS : Hid (Y2.heap[w.heap.size]? = some (.cells #[.string op, .int .i64 0, .string sEmpty, .int .i64 p, .int .i64 q, .slice (some ⟨blk, 0, none⟩) 3 cap0] 36 (0, 0))) := Lib.hid ((hbY.block _ (lt_of_heap HS.out)).trans HS.out)
  have HY : Hid (Y2.heap[w.heap.size]? = some (.cells #[.string op, .int .i64 0, .string sEmpty, .int .i64 p, .int .i64 q, .slice (some ⟨blk, 0, none⟩) 3 cap0] 36 (0, 0)) ∧ Below W0.heap.size W0 Y2) := Lib.hid ⟨HS.out, HW0.out _ HB.out⟩
  have sz2 : C.size ≤ 40000 := by rw [← bys_length, hs2]; exact lc
  have Hs2 := Lib.hid hs2
  clear hs2 hbY
  refine hK' _ _ ⟨HY.out, ?_⟩
  clear hK'
  refine wpAnyH_take (i := 19) (oi := ⟨some 35, .binOp .add 9 (.tmp 29) (.tmp 34) 9, 9, "more.go:19", _, none⟩) (v := .string (⟨#[40]⟩ ++ A ++ ⟨#[63]⟩ ++ B ++ ⟨#[58]⟩ ++ C)) rfl (by kernel_rfl) (by kernel_rfl) (by kernel_rfl) (fun _ _ _ h => h) (Or.inl ⟨by kernel_rfl, ?_⟩) HY.out ?_
  · intro X _; have g : 1 + A.size + 1 + B.size + 1 + C.size ≤ 9223372036854775807 := by omega
    go_simp
  try simp only [Act.put, List.setIfInBounds_toArray, List.set_cons_zero, List.set_cons_succ]
  refine wpAnyH_take (i := 20) (oi := ⟨some 36, .binOp .add 9 (.tmp 35) (.const (.string { data := #[41] })) 9, 9, "more.go:19", _, none⟩) (v := .string (⟨#[40]⟩ ++ A ++ ⟨#[63]⟩ ++ B ++ ⟨#[58]⟩ ++ C ++ ⟨#[41]⟩)) rfl (by kernel_rfl) (by kernel_rfl) (by kernel_rfl) (fun _ _ _ h => h) (Or.inl ⟨by kernel_rfl, ?_⟩) HY.out ?_
  · intro X _; have g : 1 + A.size + 1 + B.size + 1 + C.size + 1 ≤ 9223372036854775807 := by omega
    go_simp
  try simp only [Act.put, List.setIfInBounds_toArray, List.set_cons_zero, List.set_cons_succ]
  refine wpAnyH_take (i := 21) (oi := ⟨some 2, .assign (.tmp 36), 9, "more.go:19", _, none⟩) (v := .string (⟨#[40]⟩ ++ A ++ ⟨#[63]⟩ ++ B ++ ⟨#[58]⟩ ++ C ++ ⟨#[41]⟩)) rfl (by kernel_rfl) (by kernel_rfl) (by kernel_rfl) (fun _ _ _ h => h) (Or.inl ⟨by kernel_rfl, ?_⟩) HY.out ?_
  · intro X _; go_simp
  try simp only [Act.put, List.setIfInBounds_toArray, List.set_cons_zero, List.set_cons_succ]
  refine wpAnyH_done (by kernel_rfl) ?_ _
  go_wp2_with fail
  go_ret
  refine ⟨⟨_, rfl, ?_⟩, HB.out⟩
  simp only [bys_appI, List.append_assoc]
  rw [Hs0.out, Hs1.out, Hs2.out]
  rfl

set_option maxRecDepth 100000 in
set_option maxHeartbeats 8000000 in
theorem infix_up (W0 : World) (blk cap0 : Nat) (op : ByteArray) (p q : Int) (a : Tr) (oa : Option Addr) (ma ca : Nat)
    (xa0 : W0.cell? ⟨blk, 0, none⟩ = some (.string a.op)) (xa1 : W0.cell? ⟨blk, 1, none⟩ = some (.int .i64 a.val)) (xa2 : W0.cell? ⟨blk, 2, none⟩ = some (.string a.nm)) (xa3 : W0.cell? ⟨blk, 3, none⟩ = some (.int .i64 a.pos)) (xa4 : W0.cell? ⟨blk, 4, none⟩ = some (.int .i64 a.apos)) (xa5 : W0.cell? ⟨blk, 5, none⟩ = some (.slice oa ma ca)) (hia : Infs W0 a (.slice oa ma ca)) (la : (inf a).length ≤ 40000)
    (e0 : (op.toList == [110, 117, 109]) = false) (e1 : (op.toList == [110, 97, 109, 101]) = false) (e2 : (op.toList == [63]) = false) (e3 : (op.toList == [117, 43]) = true) (h2 : op.size = 2) (w : World) (hb : Below W0.heap.size W0 w) :
    Calls Tryd.prog 11 #[.agg #[.string op, .int .i64 0, .string sEmpty, .int .i64 p, .int .i64 q, .slice (some ⟨blk, 0, none⟩) 1 cap0]] w fun e w' => (∃ s, e = .returned (.string s) ∧ bys s = 40 :: (bys (op.extract 1 2) ++ (inf a ++ [41]))) ∧ Below w.heap.size w w' := by
  have HW0 : Hid (∀ X, Below w.heap.size w X → Below W0.heap.size W0 X) := Lib.hid (fun X hX => hb.trans (hX.mono hb.size))
  have HXa := Lib.hid (And.intro xa0 (And.intro xa1 (And.intro xa2 (And.intro xa3 (And.intro xa4 xa5)))))
  have HCa : Hid (∀ X, Below W0.heap.size W0 X → Calls Tryd.prog 11 #[.agg #[.string a.op, .int .i64 a.val, .string a.nm, .int .i64 a.pos, .int .i64 a.apos, .slice oa ma ca]] X fun e w' => (∃ s, e = .returned (.string s) ∧ bys s = inf a) ∧ Below X.heap.size X w') := Lib.hid (fun X hX => hia X hX)
  clear hb xa0 xa1 xa2 xa3 xa4 xa5 hia
  go_enter Tryd.func11, Tryd.ntmps11
  go_wp2_with fail
  obtain ⟨W, hW⟩ : ∃ W : World, W = w.alloc (.cells #[.string op, .int .i64 0, .string sEmpty, .int .i64 p, .int .i64 q, .slice (some ⟨blk, 0, none⟩) 1 cap0] 36) := ⟨_, rfl⟩
  try rw [← hW]
  have HB : Hid (Below w.heap.size w W.drew) := Lib.hid (by rw [hW]; exact ((Below.refl _ _).alloc (Nat.le_refl _) _).drew)
  have HS : Hid (W.drew.heap[w.heap.size]? = some (.cells #[.string op, .int .i64 0, .string sEmpty, .int .i64 p, .int .i64 q, .slice (some ⟨blk, 0, none⟩) 1 cap0] 36 (0, 0))) := Lib.hid (by rw [hW]; exact heap_alloc_last w _)
  clear hW
  obtain ⟨U, hU⟩ : ∃ U : ByteArray, U = op.extract 1 2 := ⟨_, rfl⟩
  have us : U.size ≤ 3 := by rw [hU, ByteArray.size_extract]; omega
  refine wp_region_held (S := fun X => X.heap[w.heap.size]? = some (.cells #[.string op, .int .i64 0, .string sEmpty, .int .i64 p, .int .i64 q, .slice (some ⟨blk, 0, none⟩) 1 cap0] 36 (0, 0)) ∧ Below W0.heap.size W0 X) (by kernel_rfl) ?_
  try (change wpAnyH _ _ _ _ _ _ _ _ (World.drew _))
  have HY : Hid (W.drew.heap[w.heap.size]? = some (.cells #[.string op, .int .i64 0, .string sEmpty, .int .i64 p, .int .i64 q, .slice (some ⟨blk, 0, none⟩) 1 cap0] 36 (0, 0)) ∧ Below W0.heap.size W0 W.drew) := Lib.hid ⟨HS.out, HW0.out _ HB.out⟩
  generalize W.drew = X0 at *
  refine wpAnyH_take (i := 0) (v := .pointer (some ⟨w.heap.size, 0, none⟩)) rfl (by kernel_rfl) (by kernel_rfl) (by kernel_rfl) (fun _ _ _ h => h) (Or.inl ⟨by kernel_rfl, ?_⟩) HY.out ?_
  · intro X hS; obtain ⟨hS1, _⟩ := hS; obtain ⟨⟨z0, z1, z2, z3, z4, z5⟩, _⟩ := six_facts hS1; clear hS1; go_simp
  try simp only [Act.put, List.setIfInBounds_toArray]
  refine wpAnyH_take (i := 1) (v := .string op) rfl (by kernel_rfl) (by kernel_rfl) (by kernel_rfl) (fun _ _ _ h => h) (Or.inl ⟨by kernel_rfl, ?_⟩) HY.out ?_
  · intro X hS; obtain ⟨hS1, _⟩ := hS; obtain ⟨⟨z0, z1, z2, z3, z4, z5⟩, _⟩ := six_facts hS1; clear hS1; go_simp
  try simp only [Act.put]
  refine wpAnyH_take (i := 2) (v := .string U) rfl (by kernel_rfl) (by kernel_rfl) (by kernel_rfl) (fun _ _ _ h => h) (Or.inl ⟨by kernel_rfl, ?_⟩) HY.out ?_
  · intro X _; rw [hU]; go_simp
  try simp only [Act.put]
  refine wpAnyH_take (i := 3) (v := .string (⟨#[40]⟩ ++ U)) rfl (by kernel_rfl) (by kernel_rfl) (by kernel_rfl) (fun _ _ _ h => h) (Or.inl ⟨by kernel_rfl, ?_⟩) HY.out ?_
  · intro X _; have g : 1 + U.size ≤ 9223372036854775807 := by omega
    go_simp
    try omega
  try simp only [Act.put]
  refine wpAnyH_take (i := 4) (v := .pointer (some ⟨w.heap.size, 5, none⟩)) rfl (by kernel_rfl) (by kernel_rfl) (by kernel_rfl) (fun _ _ _ h => h) (Or.inl ⟨by kernel_rfl, ?_⟩) HY.out ?_
  · intro X hS; obtain ⟨hS1, _⟩ := hS; obtain ⟨⟨z0, z1, z2, z3, z4, z5⟩, _⟩ := six_facts hS1; clear hS1; go_simp
  try simp only [Act.put]
  refine wpAnyH_take (i := 5) (v := .slice (some ⟨blk, 0, none⟩) 1 cap0) rfl (by kernel_rfl) (by kernel_rfl) (by kernel_rfl) (fun _ _ _ h => h) (Or.inl ⟨by kernel_rfl, ?_⟩) HY.out ?_
  · intro X hS; obtain ⟨hS1, _⟩ := hS; obtain ⟨⟨z0, z1, z2, z3, z4, z5⟩, _⟩ := six_facts hS1; clear hS1; go_simp
  try simp only [Act.put]
  refine wpAnyH_take (i := 6) (v := .pointer (some ⟨blk, 0, none⟩)) rfl (by kernel_rfl) (by kernel_rfl) (by kernel_rfl) (fun _ _ _ h => h) (Or.inl ⟨by kernel_rfl, ?_⟩) HY.out ?_
  · intro X hS; obtain ⟨hS1, _⟩ := hS; obtain ⟨⟨z0, z1, z2, z3, z4, z5⟩, _⟩ := six_facts hS1; clear hS1; go_simp
  try simp only [Act.put]
  refine wpAnyH_take (i := 7) (v := .agg #[.string a.op, .int .i64 a.val, .string a.nm, .int .i64 a.pos, .int .i64 a.apos, .slice oa ma ca]) rfl (by kernel_rfl) (by kernel_rfl) (by kernel_rfl) (fun _ _ _ h => h) (Or.inl ⟨by kernel_rfl, ?_⟩) HY.out ?_
  · intro X hS; obtain ⟨_, hS2⟩ := hS; obtain ⟨x0, x1, x2, x3, x4, x5⟩ := HXa.out; have z0 := cell_kept hS2 x0; have z1 := cell_kept hS2 x1; have z2 := cell_kept hS2 x2; have z3 := cell_kept hS2 x3; have z4 := cell_kept hS2 x4; have z5 := cell_kept hS2 x5; clear x0 x1 x2 x3 x4 x5 hS2; go_simp
  try simp only [Act.put]
  refine wpAnyH_all (rs := [8]) (by kernel_rfl) (by simp) ?_
  intro ii hii
  rw [List.mem_singleton] at hii
  subst hii
  refine wpOp_step (by rfl) ?_
  intro K' hK'
  go_simp
  go_at_call 11
  refine (HCa.out X0 HY.out.2).mono ?_
  rintro e Y0 ⟨⟨A, rfl, hs0⟩, hbY⟩
  have HB : Hid (Below w.heap.size w Y0) := Lib.hid (HB.out.trans (hbY.mono HB.out.size))
  have HS : Hid (Y0.heap[w.heap.size]? = some (.cells #[.string op, .int .i64 0, .string sEmpty, .int .i64 p, .int .i64 q, .slice (some ⟨blk, 0, none⟩) 1 cap0] 36 (0, 0))) := Lib.hid ((hbY.block _ (lt_of_heap HS.out)).trans HS.out)
  have HY : Hid (Y0.heap[w.heap.size]? = some (.cells #[.string op, .int .i64 0, .string sEmpty, .int .i64 p, .int .i64 q, .slice (some ⟨blk, 0, none⟩) 1 cap0] 36 (0, 0)) ∧ Below W0.heap.size W0 Y0) := Lib.hid ⟨HS.out, HW0.out _ HB.out⟩
  have sz0 : A.size ≤ 40000 := by rw [← bys_length, hs0]; exact la
  have Hs0 := Lib.hid hs0
  clear hs0 hbY
  refine hK' _ _ ⟨HY.out, ?_⟩
  clear hK'
  refine wpAnyH_take (i := 9) (oi := ⟨some 49, .binOp .add 9 (.tmp 43) (.tmp 48) 9, 9, "more.go:21", _, none⟩) (v := .string (⟨#[40]⟩ ++ U ++ A)) rfl (by kernel_rfl) (by kernel_rfl) (by kernel_rfl) (fun _ _ _ h => h) (Or.inl ⟨by kernel_rfl, ?_⟩) HY.out ?_
  · intro X _; have g : 1 + U.size + A.size ≤ 9223372036854775807 := by omega
    go_simp
    try omega
  try simp only [Act.put, List.setIfInBounds_toArray, List.set_cons_zero, List.set_cons_succ]
  refine wpAnyH_take (i := 10) (oi := ⟨some 50, .binOp .add 9 (.tmp 49) (.const (.string { data := #[41] })) 9, 9, "more.go:21", _, none⟩) (v := .string (⟨#[40]⟩ ++ U ++ A ++ ⟨#[41]⟩)) rfl (by kernel_rfl) (by kernel_rfl) (by kernel_rfl) (fun _ _ _ h => h) (Or.inl ⟨by kernel_rfl, ?_⟩) HY.out ?_
  · intro X _; have g : 1 + U.size + A.size + 1 ≤ 9223372036854775807 := by omega
    go_simp
    try omega
  try simp only [Act.put, List.setIfInBounds_toArray, List.set_cons_zero, List.set_cons_succ]
  refine wpAnyH_take (i := 11) (oi := ⟨some 2, .assign (.tmp 50), 9, "more.go:21", _, none⟩) (v := .string (⟨#[40]⟩ ++ U ++ A ++ ⟨#[41]⟩)) rfl (by kernel_rfl) (by kernel_rfl) (by kernel_rfl) (fun _ _ _ h => h) (Or.inl ⟨by kernel_rfl, ?_⟩) HY.out ?_
  · intro X _; go_simp
  try simp only [Act.put, List.setIfInBounds_toArray, List.set_cons_zero, List.set_cons_succ]
  refine wpAnyH_done (by kernel_rfl) ?_ _
  go_wp2_with fail
  go_ret
  refine ⟨⟨_, rfl, ?_⟩, HB.out⟩
  simp only [bys_appI, List.append_assoc]
  rw [Hs0.out, hU]
  rfl

set_option maxRecDepth 100000 in
set_option maxHeartbeats 8000000 in
theorem infix_um (W0 : World) (blk cap0 : Nat) (op : ByteArray) (p q : Int) (a : Tr) (oa : Option Addr) (ma ca : Nat)
    (xa0 : W0.cell? ⟨blk, 0, none⟩ = some (.string a.op)) (xa1 : W0.cell? ⟨blk, 1, none⟩ = some (.int .i64 a.val)) (xa2 : W0.cell? ⟨blk, 2, none⟩ = some (.string a.nm)) (xa3 : W0.cell? ⟨blk, 3, none⟩ = some (.int .i64 a.pos)) (xa4 : W0.cell? ⟨blk, 4, none⟩ = some (.int .i64 a.apos)) (xa5 : W0.cell? ⟨blk, 5, none⟩ = some (.slice oa ma ca)) (hia : Infs W0 a (.slice oa ma ca)) (la : (inf a).length ≤ 40000)
    (e0 : (op.toList == [110, 117, 109]) = false) (e1 : (op.toList == [110, 97, 109, 101]) = false) (e2 : (op.toList == [63]) = false) (e3 : (op.toList == [117, 43]) = false) (e4 : (op.toList == [117, 45]) = true) (h2 : op.size = 2) (w : World) (hb : Below W0.heap.size W0 w) :
    Calls Tryd.prog 11 #[.agg #[.string op, .int .i64 0, .string sEmpty, .int .i64 p, .int .i64 q, .slice (some ⟨blk, 0, none⟩) 1 cap0]] w fun e w' => (∃ s, e = .returned (.string s) ∧ bys s = 40 :: (bys (op.extract 1 2) ++ (inf a ++ [41]))) ∧ Below w.heap.size w w' := by
  have HW0 : Hid (∀ X, Below w.heap.size w X → Below W0.heap.size W0 X) := Lib.hid (fun X hX => hb.trans (hX.mono hb.size))
  have HXa := Lib.hid (And.intro xa0 (And.intro xa1 (And.intro xa2 (And.intro xa3 (And.intro xa4 xa5)))))
  have HCa : Hid (∀ X, Below W0.heap.size W0 X → Calls Tryd.prog 11 #[.agg #[.string a.op, .int .i64 a.val, .string a.nm, .int .i64 a.pos, .int .i64 a.apos, .slice oa ma ca]] X fun e w' => (∃ s, e = .returned (.string s) ∧ bys s = inf a) ∧ Below X.heap.size X w') := Lib.hid (fun X hX => hia X hX)
  clear hb xa0 xa1 xa2 xa3 xa4 xa5 hia
  go_enter Tryd.func11, Tryd.ntmps11
  go_wp2_with fail
  obtain ⟨W, hW⟩ : ∃ W : World, W = w.alloc (.cells #[.string op, .int .i64 0, .string sEmpty, .int .i64 p, .int .i64 q, .slice (some ⟨blk, 0, none⟩) 1 cap0] 36) := ⟨_, rfl⟩
  try rw [← hW]
  have HB : Hid (Below w.heap.size w W.drew) := Lib.hid (by rw [hW]; exact ((Below.refl _ _).alloc (Nat.le_refl _) _).drew)
  have HS : Hid (W.drew.heap[w.heap.size]? = some (.cells #[.string op, .int .i64 0, .string sEmpty, .int .i64 p, .int .i64 q, .slice (some ⟨blk, 0, none⟩) 1 cap0] 36 (0, 0))) := Lib.hid (by rw [hW]; exact heap_alloc_last w _)
  clear hW
  obtain ⟨U, hU⟩ : ∃ U : ByteArray, U = op.extract 1 2 := ⟨_, rfl⟩
  have us : U.size ≤ 3 := by rw [hU, ByteArray.size_extract]; omega
  refine wp_region_held (S := fun X => X.heap[w.heap.size]? = some (.cells #[.string op, .int .i64 0, .string sEmpty, .int .i64 p, .int .i64 q, .slice (some ⟨blk, 0, none⟩) 1 cap0] 36 (0, 0)) ∧ Below W0.heap.size W0 X) (by kernel_rfl) ?_
  try (change wpAnyH _ _ _ _ _ _ _ _ (World.drew _))
  have HY : Hid (W.drew.heap[w.heap.size]? = some (.cells #[.string op, .int .i64 0, .string sEmpty, .int .i64 p, .int .i64 q, .slice (some ⟨blk, 0, none⟩) 1 cap0] 36 (0, 0)) ∧ Below W0.heap.size W0 W.drew) := Lib.hid ⟨HS.out, HW0.out _ HB.out⟩
  generalize W.drew = X0 at *
  refine wpAnyH_take (i := 0) (v := .pointer (some ⟨w.heap.size, 0, none⟩)) rfl (by kernel_rfl) (by kernel_rfl) (by kernel_rfl) (fun _ _ _ h => h) (Or.inl ⟨by kernel_rfl, ?_⟩) HY.out ?_
  · intro X hS; obtain ⟨hS1, _⟩ := hS; obtain ⟨⟨z0, z1, z2, z3, z4, z5⟩, _⟩ := six_facts hS1; clear hS1; go_simp
  try simp only [Act.put, List.setIfInBounds_toArray]
  refine wpAnyH_take (i := 1) (v := .string op) rfl (by kernel_rfl) (by kernel_rfl) (by kernel_rfl) (fun _ _ _ h => h) (Or.inl ⟨by kernel_rfl, ?_⟩) HY.out ?_
  · intro X hS; obtain ⟨hS1, _⟩ := hS; obtain ⟨⟨z0, z1, z2, z3, z4, z5⟩, _⟩ := six_facts hS1; clear hS1; go_simp
  try simp only [Act.put]
  refine wpAnyH_take (i := 2) (v := .string U) rfl (by kernel_rfl) (by kernel_rfl) (by kernel_rfl) (fun _ _ _ h => h) (Or.inl ⟨by kernel_rfl, ?_⟩) HY.out ?_
  · intro X _; rw [hU]; go_simp
  try simp only [Act.put]
  refine wpAnyH_take (i := 3) (v := .string (⟨#[40]⟩ ++ U)) rfl (by kernel_rfl) (by kernel_rfl) (by kernel_rfl) (fun _ _ _ h => h) (Or.inl ⟨by kernel_rfl, ?_⟩) HY.out ?_
  · intro X _; have g : 1 + U.size ≤ 9223372036854775807 := by omega
    go_simp
    try omega
  try simp only [Act.put]
  refine wpAnyH_take (i := 4) (v := .pointer (some ⟨w.heap.size, 5, none⟩)) rfl (by kernel_rfl) (by kernel_rfl) (by kernel_rfl) (fun _ _ _ h => h) (Or.inl ⟨by kernel_rfl, ?_⟩) HY.out ?_
  · intro X hS; obtain ⟨hS1, _⟩ := hS; obtain ⟨⟨z0, z1, z2, z3, z4, z5⟩, _⟩ := six_facts hS1; clear hS1; go_simp
  try simp only [Act.put]
  refine wpAnyH_take (i := 5) (v := .slice (some ⟨blk, 0, none⟩) 1 cap0) rfl (by kernel_rfl) (by kernel_rfl) (by kernel_rfl) (fun _ _ _ h => h) (Or.inl ⟨by kernel_rfl, ?_⟩) HY.out ?_
  · intro X hS; obtain ⟨hS1, _⟩ := hS; obtain ⟨⟨z0, z1, z2, z3, z4, z5⟩, _⟩ := six_facts hS1; clear hS1; go_simp
  try simp only [Act.put]
  refine wpAnyH_take (i := 6) (v := .pointer (some ⟨blk, 0, none⟩)) rfl (by kernel_rfl) (by kernel_rfl) (by kernel_rfl) (fun _ _ _ h => h) (Or.inl ⟨by kernel_rfl, ?_⟩) HY.out ?_
  · intro X hS; obtain ⟨hS1, _⟩ := hS; obtain ⟨⟨z0, z1, z2, z3, z4, z5⟩, _⟩ := six_facts hS1; clear hS1; go_simp
  try simp only [Act.put]
  refine wpAnyH_take (i := 7) (v := .agg #[.string a.op, .int .i64 a.val, .string a.nm, .int .i64 a.pos, .int .i64 a.apos, .slice oa ma ca]) rfl (by kernel_rfl) (by kernel_rfl) (by kernel_rfl) (fun _ _ _ h => h) (Or.inl ⟨by kernel_rfl, ?_⟩) HY.out ?_
  · intro X hS; obtain ⟨_, hS2⟩ := hS; obtain ⟨x0, x1, x2, x3, x4, x5⟩ := HXa.out; have z0 := cell_kept hS2 x0; have z1 := cell_kept hS2 x1; have z2 := cell_kept hS2 x2; have z3 := cell_kept hS2 x3; have z4 := cell_kept hS2 x4; have z5 := cell_kept hS2 x5; clear x0 x1 x2 x3 x4 x5 hS2; go_simp
  try simp only [Act.put]
  refine wpAnyH_all (rs := [8]) (by kernel_rfl) (by simp) ?_
  intro ii hii
  rw [List.mem_singleton] at hii
  subst hii
  refine wpOp_step (by rfl) ?_
  intro K' hK'
  go_simp
  go_at_call 11
  refine (HCa.out X0 HY.out.2).mono ?_
  rintro e Y0 ⟨⟨A, rfl, hs0⟩, hbY⟩
  have HB : Hid (Below w.heap.size w Y0) := Lib.hid (HB.out.trans (hbY.mono HB.out.size))
  have HS : Hid (Y0.heap[w.heap.size]? = some (.cells #[.string op, .int .i64 0, .string sEmpty, .int .i64 p, .int .i64 q, .slice (some ⟨blk, 0, none⟩) 1 cap0] 36 (0, 0))) := Lib.hid ((hbY.block _ (lt_of_heap HS.out)).trans HS.out)
  have HY : Hid (Y0.heap[w.heap.size]? = some (.cells #[.string op, .int .i64 0, .string sEmpty, .int .i64 p, .int .i64 q, .slice (some ⟨blk, 0, none⟩) 1 cap0] 36 (0, 0)) ∧ Below W0.heap.size W0 Y0) := Lib.hid ⟨HS.out, HW0.out _ HB.out⟩
  have sz0 : A.size ≤ 40000 := by rw [← bys_length, hs0]; exact la
  have Hs0 := Lib.hid hs0
  clear hs0 hbY
  refine hK' _ _ ⟨HY.out, ?_⟩
  clear hK'
  refine wpAnyH_take (i := 9) (oi := ⟨some 49, .binOp .add 9 (.tmp 43) (.tmp 48) 9, 9, "more.go:21", _, none⟩) (v := .string (⟨#[40]⟩ ++ U ++ A)) rfl (by kernel_rfl) (by kernel_rfl) (by kernel_rfl) (fun _ _ _ h => h) (Or.inl ⟨by kernel_rfl, ?_⟩) HY.out ?_
  · intro X _; have g : 1 + U.size + A.size ≤ 9223372036854775807 := by omega
    go_simp
    try omega
  try simp only [Act.put, List.setIfInBounds_toArray, List.set_cons_zero, List.set_cons_succ]
  refine wpAnyH_take (i := 10) (oi := ⟨some 50, .binOp .add 9 (.tmp 49) (.const (.string { data := #[41] })) 9, 9, "more.go:21", _, none⟩) (v := .string (⟨#[40]⟩ ++ U ++ A ++ ⟨#[41]⟩)) rfl (by kernel_rfl) (by kernel_rfl) (by kernel_rfl) (fun _ _ _ h => h) (Or.inl ⟨by kernel_rfl, ?_⟩) HY.out ?_
  · intro X _; have g : 1 + U.size + A.size + 1 ≤ 9223372036854775807 := by omega
    go_simp
    try omega
  try simp only [Act.put, List.setIfInBounds_toArray, List.set_cons_zero, List.set_cons_succ]
  refine wpAnyH_take (i := 11) (oi := ⟨some 2, .assign (.tmp 50), 9, "more.go:21", _, none⟩) (v := .string (⟨#[40]⟩ ++ U ++ A ++ ⟨#[41]⟩)) rfl (by kernel_rfl) (by kernel_rfl) (by kernel_rfl) (fun _ _ _ h => h) (Or.inl ⟨by kernel_rfl, ?_⟩) HY.out ?_
  · intro X _; go_simp
  try simp only [Act.put, List.setIfInBounds_toArray, List.set_cons_zero, List.set_cons_succ]
  refine wpAnyH_done (by kernel_rfl) ?_ _
  go_wp2_with fail
  go_ret
  refine ⟨⟨_, rfl, ?_⟩, HB.out⟩
  simp only [bys_appI, List.append_assoc]
  rw [Hs0.out, hU]
  rfl

set_option maxRecDepth 100000 in
set_option maxHeartbeats 2000000 in
theorem infix_num (W0 : World) (n : Int) (p : Nat) (h0 : 0 ≤ n) (h1 : n ≤ 9223372036854775807) (hT : TP W0) : Infs W0 (.num n p) (.slice none 0 0) := by
  intro w hb
  have e0 : (sNum.toList == [110, 117, 109]) = true := by rw [tl_beq]; decide
  have HTx : Hid (∀ W, Below w.heap.size w W → Calls Tryd.prog 14 #[.int .i64 n] W fun e w' => e = .returned (.string ⟨(Lib.itoa n).toArray⟩) ∧ Below W.heap.size W w') := Lib.hid (fun W hW => scText_any n W (by omega) h1 ((hT.below hb).below hW))
  have HR : Hid (bys ⟨(Lib.itoa n).toArray⟩ = inf (.num n p)) := Lib.hid (by
    obtain ⟨k, rfl⟩ : ∃ k : Nat, n = k := ⟨n.toNat, by omega⟩
    rw [Lib.itoa_nonneg]
    rfl)
  clear hb hT
  show Calls _ _ #[.agg #[.string sNum, .int .i64 n, .string sEmpty, .int .i64 p, .int .i64 0, .slice none 0 0]] w _
  generalize sNum = op at e0
  go_enter Tryd.func11, Tryd.ntmps11
  go_wp2_with fail
  obtain ⟨W, hW⟩ : ∃ W : World, W = w.alloc (.cells #[.string op, .int .i64 n, .string sEmpty, .int .i64 p, .int .i64 0, .slice none 0 0] 36) := ⟨_, rfl⟩
  try rw [← hW]
  have HB : Hid (Below w.heap.size w W) := Lib.hid (by rw [hW]; exact (Below.refl _ _).alloc (Nat.le_refl _) _)
  clear hW
  refine (HTx.out W HB.out).mono ?_
  rintro e w1 ⟨rfl, hb1⟩
  have HB1 : Hid (Below w.heap.size w w1) := Lib.hid (HB.out.trans (hb1.mono HB.out.size))
  clear hb1
  go_wp2_with fail
  go_ret
  exact ⟨⟨_, rfl, HR.out⟩, HB1.out⟩

set_option maxRecDepth 100000 in
set_option maxHeartbeats 2000000 in
theorem infix_name (W0 : World) (s : ByteArray) (p : Nat) : Infs W0 (.name s p) (.slice none 0 0) := by
  intro w _
  have e0 : (sName.toList == [110, 117, 109]) = false := tl_no (by decide)
  have e1 : (sName.toList == [110, 97, 109, 101]) = true := by rw [tl_beq]; decide
  have HR : Hid (bys s = inf (.name s p)) := Lib.hid rfl
  show Calls _ _ #[.agg #[.string sName, .int .i64 0, .string s, .int .i64 p, .int .i64 0, .slice none 0 0]] w _
  generalize sName = op at e0 e1
  go_enter Tryd.func11, Tryd.ntmps11
  go_wp2_with fail
  go_ret
  exact ⟨⟨_, rfl, HR.out⟩, (Below.refl _ _).alloc (Nat.le_refl _) _⟩

theorem tl_yesI {s : ByteArray} {l : List UInt8} (h : s = ⟨l.toArray⟩) : (s.toList == l) = true := by rw [tl_beq]; simpa using h
theorem tl_someI {s : ByteArray} (h : ¬ s = sEmpty) : s.toList.isEmpty = false := by
  have := tl_no (s := s) (l := []) h
  cases hs : s.toList with
  | nil => rw [hs] at this; exact absurd this (by decide)
  | cons x m => rfl
theorem op_sizes : ∀ s ∈ opList, s.size ≤ 3 := by decide
theorem un_opsI : ∀ s ∈ unL, (¬ s = sNum ∧ ¬ s = sName ∧ ¬ s = sQue) ∧ s.size ≤ 3 := by decide
theorem bin_opsI : ∀ s ∈ opRows.flatten, (¬ s = sNum ∧ ¬ s = sName ∧ ¬ s = sQue) ∧ ∀ x ∈ unL, ¬ x = s := by decide
theorem asg_opsI : ∀ s ∈ opList, asgB s = true → (¬ s = sNum ∧ ¬ s = sName ∧ ¬ s = sQue) ∧ ∀ x ∈ unL, ¬ x = s := by decide

theorem infix_any (W0 : World) (S : Nat → Prop) (hT : TP W0) : ∀ (t : Tr) (kv0 : Value), t.Ops → (inf t).length ≤ 40000 → t.Lay W0 S kv0 → Infs W0 t kv0
  | .num n p, kv0, ho, _, h => by
    obtain rfl : kv0 = _ := h
    exact infix_num W0 n p ho.1 ho.2 hT
  | .name s p, kv0, _, _, h => by
    obtain rfl : kv0 = _ := h
    exact infix_name W0 s p
  | .un op p a, kv0, ho, hl, h => by
    obtain ⟨hop, hao⟩ := ho
    obtain ⟨ka, hr, ha⟩ := h
    have la : (inf a).length ≤ 40000 := by simp only [inf, List.length_cons, List.length_append] at hl; omega
    have ea := infix_any W0 S hT a ka hao la ha
    have hr' : RowOf W0 S kv0 1 (rowK (k1 a) (v1 ka) 1) := by rw [rowK_1]; exact hr
    obtain ⟨blk, cap, rfl, _, _, hc⟩ := hr'.kids
    obtain ⟨x0, x1, x2, x3, x4, x5⟩ := hc 0 (by omega)
    obtain ⟨oa, ma, ca, rfl⟩ := ha.shape
    obtain ⟨⟨n1, n2, n3⟩, hsz⟩ := un_opsI op hop
    have f1 := tl_no (l := [110, 117, 109]) n1
    have f2 := tl_no (l := [110, 97, 109, 101]) n2
    have f3 := tl_no (l := [63]) n3
    unfold unL at hop
    simp only [List.mem_cons, List.not_mem_nil, or_false] at hop
    intro w hb
    rcases hop with h | h | h | h
    · refine (infix_up W0 blk cap op p 0 a oa ma ca x0 x1 x2 x3 x4 x5 ea la f1 f2 f3 (tl_yesI h) (by rw [h]; rfl) w hb).mono ?_
      rintro e w' ⟨⟨s, rfl, hs⟩, hb'⟩
      exact ⟨⟨s, rfl, by rw [hs]; subst h; rfl⟩, hb'⟩
    · refine (infix_um W0 blk cap op p 0 a oa ma ca x0 x1 x2 x3 x4 x5 ea la f1 f2 f3 (tl_no (by rw [h]; decide)) (tl_yesI h) (by rw [h]; rfl) w hb).mono ?_
      rintro e w' ⟨⟨s, rfl, hs⟩, hb'⟩
      exact ⟨⟨s, rfl, by rw [hs]; subst h; rfl⟩, hb'⟩
    · refine (infix_not W0 blk cap op p 0 a oa ma ca x0 x1 x2 x3 x4 x5 ea la f1 f2 f3 (tl_no (by rw [h]; decide)) (tl_no (by rw [h]; decide)) tl_emp hsz w hb).mono ?_
      rintro e w' ⟨⟨s, rfl, hs⟩, hb'⟩
      exact ⟨⟨s, rfl, by rw [hs]; subst h; rfl⟩, hb'⟩
    · refine (infix_not W0 blk cap op p 0 a oa ma ca x0 x1 x2 x3 x4 x5 ea la f1 f2 f3 (tl_no (by rw [h]; decide)) (tl_no (by rw [h]; decide)) tl_emp hsz w hb).mono ?_
      rintro e w' ⟨⟨s, rfl, hs⟩, hb'⟩
      exact ⟨⟨s, rfl, by rw [hs]; subst h; rfl⟩, hb'⟩
  | .bin op p a b, kv0, ho, hl, h => by
    obtain ⟨hop, hao, hbo⟩ := ho
    obtain ⟨ka, kb, hr, ha, hb0⟩ := h
    have la : (inf a).length ≤ 40000 := by simp only [inf, List.length_cons, List.length_append] at hl; omega
    have lb : (inf b).length ≤ 40000 := by simp only [inf, List.length_cons, List.length_append] at hl; omega
    have ea := infix_any W0 S hT a ka hao la ha
    have eb := infix_any W0 S hT b kb hbo lb hb0
    have hr' : RowOf W0 S kv0 2 (rowK (k2 a b) (v2 ka kb) 2) := by rw [rowK_2]; exact hr
    obtain ⟨blk, cap, rfl, _, _, hc⟩ := hr'.kids
    obtain ⟨x0, x1, x2, x3, x4, x5⟩ := hc 0 (by omega)
    obtain ⟨y0, y1, y2, y3, y4, y5⟩ := hc 1 (by omega)
    obtain ⟨oa, ma, ca, rfl⟩ := ha.shape
    obtain ⟨ob, mb, cb, rfl⟩ := hb0.shape
    obtain ⟨hmem, -, -⟩ := str_mem hop
    obtain ⟨⟨n1, n2, n3⟩, hu⟩ := bin_opsI op (row_mem op opRows 0 hop)
    exact infix_two W0 blk cap op p 0 a b oa ma ca ob mb cb x0 x1 x2 x3 x4 x5 ea la y0 y1 y2 y3 y4 y5 eb lb (tl_no n1) (tl_no n2) (tl_no n3) (tl_no fun e => hu op (by rw [e]; simp [unL]) rfl) (tl_no fun e => hu op (by rw [e]; simp [unL]) rfl) tl_emp (op_sizes op hmem)
  | .cond op p a b c, kv0, ho, hl, h => by
    obtain ⟨rfl, hao, hbo, hco⟩ := ho
    obtain ⟨ka, kb, kc, hr, ha, hb0, hc0⟩ := h
    have la : (inf a).length ≤ 40000 := by simp only [inf, List.length_cons, List.length_append] at hl; omega
    have lb : (inf b).length ≤ 40000 := by simp only [inf, List.length_cons, List.length_append] at hl; omega
    have lc : (inf c).length ≤ 40000 := by simp only [inf, List.length_cons, List.length_append] at hl; omega
    have ea := infix_any W0 S hT a ka hao la ha
    have eb := infix_any W0 S hT b kb hbo lb hb0
    have ec := infix_any W0 S hT c kc hco lc hc0
    have hr' : RowOf W0 S kv0 3 (rowK (k3 a b c) (v3 ka kb kc) 3) := by rw [rowK_3]; exact hr
    obtain ⟨blk, cap, rfl, _, _, hc⟩ := hr'.kids
    obtain ⟨x0, x1, x2, x3, x4, x5⟩ := hc 0 (by omega)
    obtain ⟨y0, y1, y2, y3, y4, y5⟩ := hc 1 (by omega)
    obtain ⟨z0, z1, z2, z3, z4, z5⟩ := hc 2 (by omega)
    obtain ⟨oa, ma, ca, rfl⟩ := ha.shape
    obtain ⟨ob, mb, cb, rfl⟩ := hb0.shape
    obtain ⟨oc, mc, cc, rfl⟩ := hc0.shape
    exact infix_que W0 blk cap sQue p 0 a b c oa ma ca ob mb cb oc mc cc x0 x1 x2 x3 x4 x5 ea la y0 y1 y2 y3 y4 y5 eb lb z0 z1 z2 z3 z4 z5 ec lc (tl_no (by decide)) (tl_no (by decide)) (tl_yesI rfl)
  | .asg op s p q a, kv0, ho, hl, h => by
    obtain ⟨hasg, hop, hs, hao⟩ := ho
    obtain ⟨ka, hr, ha⟩ := h
    have hsl := bys_length s
    have la : (inf a).length ≤ 40000 := by simp only [inf, List.length_cons, List.length_append] at hl; omega
    have ls : s.size ≤ 40000 := by simp only [inf, List.length_cons, List.length_append] at hl; omega
    have ea := infix_any W0 S hT a ka hao la ha
    have hr' : RowOf W0 S kv0 1 (rowK (k1 a) (v1 ka) 1) := by rw [rowK_1]; exact hr
    obtain ⟨blk, cap, rfl, _, _, hc⟩ := hr'.kids
    obtain ⟨x0, x1, x2, x3, x4, x5⟩ := hc 0 (by omega)
    obtain ⟨oa, ma, ca, rfl⟩ := ha.shape
    obtain ⟨⟨n1, n2, n3⟩, hu⟩ := asg_opsI op hop hasg
    exact infix_set W0 blk cap op s p q a oa ma ca x0 x1 x2 x3 x4 x5 ea la (tl_no n1) (tl_no n2) (tl_no n3) (tl_no fun e => hu op (by rw [e]; simp [unL]) rfl) (tl_no fun e => hu op (by rw [e]; simp [unL]) rfl) (tl_someI hs.1) ls (op_sizes op hop)
end Go.Proofs.YtlmoeldillpamaaDoor
/- The walk of the statement on trees that are written with all their parentheses and read again. -/
namespace Go.Proofs.YtlmoeldillpamaaDoor
open Go.RowKit Go.Extern.Stop Go.Stop Go.Extern

theorem opTxt_geN (op nm : ByteArray) (ks : List (List UInt8)) : 2 + op.size + nm.size + (ks.map fun k => k.length + 1).sum ≤ (opTxt op nm ks).length := by
  unfold opTxt
  have e1 : (⟨#[40]⟩ ++ op : ByteArray).size = 1 + op.size := ByteArray.size_append
  have e2 : (⟨#[32]⟩ ++ nm : ByteArray).size = 1 + nm.size := ByteArray.size_append
  have e3 : (ks.map fun k => (32 : UInt8) :: k).flatten.length = (ks.map fun k => k.length + 1).sum := by
    rw [List.length_flatten, List.map_map]
    rfl
  have e4 : nm = sEmpty → nm.size = 0 := fun h => by rw [h]; rfl
  split
  · rename_i h
    have := e4 h
    simp only [List.length_append, dl_len, e1, e3, List.length_singleton, List.length_nil]
    omega
  · simp only [List.length_append, dl_len, e1, e2, e3, List.length_singleton]
    omega
theorem unS_size (s : ByteArray) : (unS s).size ≤ s.size := by
  unfold unS
  split
  · rw [ByteArray.size_extract]; omega
  · exact Nat.le_refl _
theorem inf_len : ∀ t : Tr, t.Ops → (inf t).length ≤ (txt t).length
  | .num n p, h => by
    obtain ⟨k, rfl⟩ : ∃ k : Nat, n = k := ⟨n.toNat, by have := h.1; omega⟩
    show (dL (Int.toNat k)).length ≤ (Lib.itoa k).length
    rw [Lib.itoa_nonneg, Int.toNat_natCast]
    unfold dL
    simp
  | .name s p, _ => by
    show (bys s).length ≤ s.data.toList.length
    rw [bys_length, dl_len]
    exact Nat.le_refl _
  | .un op p a, h => by
    have h1 := inf_len a h.2
    have h2 := opTxt_ge op sEmpty [txt a]
    have h3 := unS_size op
    show (inf (.un op p a)).length ≤ (opTxt op sEmpty [txt a]).length
    simp only [inf, List.length_cons, List.length_append, List.length_nil, bys_length, List.map_cons, List.map_nil, List.sum_cons, List.sum_nil] at h2 ⊢
    omega
  | .bin op p a b, h => by
    have h1 := inf_len a h.2.1
    have h1' := inf_len b h.2.2
    have h2 := opTxt_ge op sEmpty [txt a, txt b]
    show (inf (.bin op p a b)).length ≤ (opTxt op sEmpty [txt a, txt b]).length
    simp only [inf, List.length_cons, List.length_append, List.length_nil, bys_length, List.map_cons, List.map_nil, List.sum_cons, List.sum_nil] at h2 ⊢
    omega
  | .cond op p a b c, h => by
    have h1 := inf_len a h.2.1
    have h1' := inf_len b h.2.2.1
    have h1'' := inf_len c h.2.2.2
    have h2 := opTxt_ge op sEmpty [txt a, txt b, txt c]
    have h3 : op.size = 1 := by rw [h.1]; rfl
    show (inf (.cond op p a b c)).length ≤ (opTxt op sEmpty [txt a, txt b, txt c]).length
    simp only [inf, List.length_cons, List.length_append, List.length_nil, List.map_cons, List.map_nil, List.sum_cons, List.sum_nil] at h2 ⊢
    omega
  | .asg op s p q a, h => by
    have h1 := inf_len a h.2.2.2
    have h2 := opTxt_geN op s [txt a]
    show (inf (.asg op s p q a)).length ≤ (opTxt op s [txt a]).length
    simp only [inf, List.length_cons, List.length_append, List.length_nil, bys_length, List.map_cons, List.map_nil, List.sum_cons, List.sum_nil] at h2 ⊢
    omega

theorem parse_okE (v : Value) (l : List Int) (n : Nat) (e : Tr) (t : Tk) (s : Nat → Addr) (w : World) (h : parseP l n = some (.ok e t)) (hs : Sl w v l) (he : Er w s) :
    Calls Tryd.prog 6 #[v] w fun x w' => (∃ E, x = .returned (.tuple #[.pointer (some ⟨E, 0, none⟩), .nilIface]) ∧ ExAt w' E e) ∧ Below w.heap.size w w' := by
  refine (parse_any v l n _ s w h hs he).mono ?_
  rintro x w' ⟨⟨E, o, m, rfl, _, hE, hI⟩, hb⟩
  exact ⟨⟨E, rfl, o, m, hE, hI.mono (Nat.zero_le _) _ _⟩, hb⟩
theorem sl_partsE {w : World} {v : Value} {l : List Int} (h : Sl w v l) : ∃ a cap, v = .slice a l.length cap := by
  obtain ⟨_, _, ⟨rfl, a, cap, rfl⟩ | ⟨b, o, cap, rfl, _, _, _⟩⟩ := h
  · exact ⟨a, cap, rfl⟩
  · exact ⟨_, cap, rfl⟩

set_option maxRecDepth 100000 in
set_option maxHeartbeats 4000000 in
theorem back_bad (oa : Option Addr) (n cap : Nat) (l : List Int) (c p : Nat) (s : Nat → Addr) (w : World) (hs : Sl w (.slice oa n cap) l) (he : Er w s) (hT : TP w) (hp : parseP l (5 * l.length + 4) = some (.bad c p)) :
    Calls Tryd.prog 4 #[.slice oa n cap] w fun e w' => e = .returned (.bool true) ∧ Below w.heap.size w w' := by
  have HP : Hid (Calls Tryd.prog 6 #[.slice oa n cap] w fun x w' => (∃ pv, x = .returned (.tuple #[.pointer none, .iface 58 pv])) ∧ Below w.heap.size w w') := Lib.hid ((parse_any _ l _ _ s w hp hs he).mono (fun x w' ⟨⟨v, hx, _⟩, hb⟩ => ⟨⟨v, hx⟩, hb⟩))
  have HA : Hid (∀ W, Below w.heap.size w W → Calls Tryd.prog 8 #[] W fun e w' => e = .returned (.bool true) ∧ Below W.heap.size W w') := Lib.hid (fun W hW => arAwake_any s W (he.below hW) (hT.below hW))
  clear hs he hT hp
  go_enter Tryd.func4, Tryd.ntmps4
  go_wp2_with fail
  refine HP.out.mono ?_
  rintro e w1 ⟨⟨pv, rfl⟩, hb⟩
  have HB := Lib.hid hb
  clear hb
  go_wp2_with fail
  refine (HA.out w1 HB.out).mono ?_
  rintro e w2 ⟨rfl, hb2⟩
  go_wp2_with fail
  go_ret
  exact ⟨rfl, HB.out.trans (hb2.mono HB.out.size)⟩

set_option maxRecDepth 100000 in
set_option maxHeartbeats 8000000 in
theorem back_ok (oa : Option Addr) (n cap : Nat) (l : List Int) (ex : Tr) (t : Tk) (s : Nat → Addr) (w : World) (hs : Sl w (.slice oa n cap) l) (he : Er w s) (hT : TP w) (hp : parseP l (5 * l.length + 4) = some (.ok ex t)) :
    Calls Tryd.prog 4 #[.slice oa n cap] w fun e w' => e = .returned (.bool true) ∧ Below w.heap.size w w' := by
  have HP := Lib.hid (parse_okE _ l _ _ _ s w hp hs he)
  have HOps := Lib.hid (parseP_ops hs.1 hp)
  have hwf := (parseP_wf hp).1
  have hlen : (inf ex).length ≤ 32768 := Nat.le_trans (inf_len ex HOps.out) (parseP_len hp)
  have HA : Hid (∀ W, Below w.heap.size w W → Calls Tryd.prog 8 #[] W fun e w' => e = .returned (.bool true) ∧ Below W.heap.size W w') := Lib.hid (fun W hW => arAwake_any s W (he.below hW) (hT.below hW))
  have HTr : Hid (∀ E W, ExAt W E ex → Calls Tryd.prog 10 #[.pointer (some ⟨E, 0, none⟩)] W fun e w' => (∃ ko kn kc, e = .returned (.agg #[.string ex.op, .int .i64 ex.val, .string ex.nm, .int .i64 ex.pos, .int .i64 ex.apos, .slice ko kn kc]) ∧ ex.Lay w' (fun k => W.heap.size ≤ k) (.slice ko kn kc)) ∧ Below W.heap.size W w') := Lib.hid (fun E W h => (tree_any E ex W h hwf).mono (fun e w' ⟨⟨kv, h1, h2⟩, hb⟩ => by
    obtain ⟨ko, kn, kc, rfl⟩ := h2.shape
    exact ⟨⟨ko, kn, kc, h1, h2⟩, hb⟩))
  have HWh : Hid (∀ W S ko kn kc, ex.Lay W S (.slice ko kn kc) → Calls Tryd.prog 9 #[.agg #[.string ex.op, .int .i64 ex.val, .string ex.nm, .int .i64 ex.pos, .int .i64 ex.apos, .slice ko kn kc]] W fun e w' => e = .returned (.bool true) ∧ Below W.heap.size W w') := Lib.hid (fun W S _ _ _ h => whole_any W S ex _ HOps.out h W (Below.refl _ _))
  have HIn : Hid (∀ W S ko kn kc, Below w.heap.size w W → ex.Lay W S (.slice ko kn kc) → Calls Tryd.prog 11 #[.agg #[.string ex.op, .int .i64 ex.val, .string ex.nm, .int .i64 ex.pos, .int .i64 ex.apos, .slice ko kn kc]] W fun e w' => (∃ s, e = .returned (.string s) ∧ bys s = inf ex) ∧ Below W.heap.size W w') := Lib.hid (fun W S _ _ _ hW h => infix_any W S (hT.below hW) ex _ HOps.out (by omega) h W (Below.refl _ _))
  have HE := Lib.hid he
  have HSz : Hid (∀ E W, ExAt W E ex → Calls Tryd.prog 13 #[.pointer (some ⟨E, 0, none⟩)] W fun x w' => x = .returned (.int .i64 (sizeT ex)) ∧ Below W.heap.size W w') := Lib.hid (fun E W h => size_of l _ ex t E W hp h)
  have HTt : Hid (∀ E W, ExAt W E ex → Below w.heap.size w W → Calls Tryd.prog 12 #[.pointer (some ⟨E, 0, none⟩)] W fun x w' => x = .returned (.string ⟨(txt ex).toArray⟩) ∧ Below W.heap.size W w') := Lib.hid (fun E W h hW => text_of l _ ex t E W hp h (hT.below hW))
  have HT := Lib.hid hT
  clear hs he hT hp hwf
  have hl := Lib.hid hlen
  clear hlen
  go_enter Tryd.func4, Tryd.ntmps4
  go_wp2_with fail
  refine HP.out.mono ?_
  rintro e w1 ⟨⟨E, rfl, hex⟩, hb⟩
  have HX := Lib.hid hex
  have HB := Lib.hid hb
  clear hex hb HP
  go_wp2_with fail
  refine (HTr.out E w1 HX.out).mono ?_
  rintro e w2 ⟨⟨ko, kn, kc, rfl, hlay⟩, hb2⟩
  have HB2 : Hid (Below w.heap.size w w2) := Lib.hid (HB.out.trans (hb2.mono HB.out.size))
  have HX2 := Lib.hid (HX.out.below hb2)
  have HL2 := Lib.hid hlay
  clear hb2 hlay
  go_wp2_with fail
  refine (HWh.out w2 _ ko kn kc HL2.out).mono ?_
  rintro e w3 ⟨rfl, hb3⟩
  have HB3 : Hid (Below w.heap.size w w3) := Lib.hid (HB2.out.trans (hb3.mono HB2.out.size))
  have HX3 := Lib.hid (HX2.out.below hb3)
  clear hb3
  go_wp2_with fail
  refine (HTr.out E w3 HX3.out).mono ?_
  rintro e w4 ⟨⟨lo, ln, lc, rfl, hlay4⟩, hb4⟩
  have HB4 : Hid (Below w.heap.size w w4) := Lib.hid (HB3.out.trans (hb4.mono HB3.out.size))
  have HX4 := Lib.hid (HX3.out.below hb4)
  have HL4 := Lib.hid hlay4
  clear hb4 hlay4
  go_wp2_with fail
  refine (HIn.out w4 _ lo ln lc HB4.out HL4.out).mono ?_
  rintro e w5 ⟨⟨tx, rfl, htx⟩, hb5⟩
  have HB5 : Hid (Below w.heap.size w w5) := Lib.hid (HB4.out.trans (hb5.mono HB4.out.size))
  have HX5 := Lib.hid (HX4.out.below hb5)
  have hts : tx.size = (inf ex).length := by rw [← bys_length, htx]
  have ht2 : tx.size ≤ 32768 := by have := hl.out; omega
  have HTX := Lib.hid htx
  clear hb5 htx
  by_cases hbig : 1024 < tx.size
  · have d1 : decide ((1024 : Int) < (tx.size : Int)) = true := decide_eq_true (by omega)
    clear hts
    go_wp2_with fail
    refine (HA.out w5 HB5.out).mono ?_
    rintro e w6 ⟨rfl, hb6⟩
    go_wp2_with fail
    go_ret
    exact ⟨rfl, HB5.out.trans (hb6.mono HB5.out.size)⟩
  · have d1 : decide ((1024 : Int) < (tx.size : Int)) = false := decide_eq_false (by omega)
    obtain ⟨n', e', t', hp', htxt, hsize⟩ := parse_back HOps.out (by omega)
    obtain ⟨cp, w6, hconv, hsl, hb6⟩ := conv_sl w5 tx (by omega)
    rw [HTX.out] at hsl
    have HB6 : Hid (Below w.heap.size w w6) := Lib.hid (HB5.out.trans (hb6.mono HB5.out.size))
    have HX6 := Lib.hid (HX5.out.below hb6)
    have HP2 := Lib.hid (parse_okE _ _ n' e' t' s w6 hp' hsl (HE.out.below HB6.out))
    have HSz' : Hid (∀ E W, ExAt W E e' → Calls Tryd.prog 13 #[.pointer (some ⟨E, 0, none⟩)] W fun x w' => x = .returned (.int .i64 (sizeT ex)) ∧ Below W.heap.size W w') := Lib.hid (fun E W h => by rw [← hsize]; exact size_of _ _ e' t' E W hp' h)
    have HTt' : Hid (∀ E W, ExAt W E e' → Below w.heap.size w W → Calls Tryd.prog 12 #[.pointer (some ⟨E, 0, none⟩)] W fun x w' => x = .returned (.string ⟨(txt ex).toArray⟩) ∧ Below W.heap.size W w') := Lib.hid (fun E W h hW => by rw [← htxt]; exact text_of _ _ e' t' E W hp' h (HT.out.below hW))
    clear hp' htxt hsize hb6 hsl hts hbig HOps HTr HWh HIn HL2 HL4 HTX hl
    generalize sizeT ex = sz at *
    generalize (⟨(txt ex).toArray⟩ : ByteArray) = xs at *
    go_wp2_with fail
    refine HP2.out.mono ?_
    rintro e w7 ⟨⟨E', rfl, hex'⟩, hb7⟩
    have HB7 : Hid (Below w.heap.size w w7) := Lib.hid (HB6.out.trans (hb7.mono HB6.out.size))
    have HX7 := Lib.hid (HX6.out.below hb7)
    have HY7 := Lib.hid hex'
    clear hex' hb7 hconv
    go_wp2_with fail
    refine (HTt'.out E' w7 HY7.out HB7.out).mono ?_
    rintro e w8 ⟨rfl, hb8⟩
    have HB8 : Hid (Below w.heap.size w w8) := Lib.hid (HB7.out.trans (hb8.mono HB7.out.size))
    have HX8 := Lib.hid (HX7.out.below hb8)
    have HY8 := Lib.hid (HY7.out.below hb8)
    clear hb8
    go_wp2_with fail
    refine (HTt.out E w8 HX8.out HB8.out).mono ?_
    rintro e w9 ⟨rfl, hb9⟩
    have HB9 : Hid (Below w.heap.size w w9) := Lib.hid (HB8.out.trans (hb9.mono HB8.out.size))
    have HX9 := Lib.hid (HX8.out.below hb9)
    have HY9 := Lib.hid (HY8.out.below hb9)
    clear hb9
    go_wp2_with fail
    refine (HSz'.out E' w9 HY9.out).mono ?_
    rintro e w10 ⟨rfl, hb10⟩
    have HB10 : Hid (Below w.heap.size w w10) := Lib.hid (HB9.out.trans (hb10.mono HB9.out.size))
    have HX10 := Lib.hid (HX9.out.below hb10)
    clear hb10
    go_wp2_with fail
    refine (HSz.out E w10 HX10.out).mono ?_
    rintro e w11 ⟨rfl, hb11⟩
    have HB11 : Hid (Below w.heap.size w w11) := Lib.hid (HB10.out.trans (hb11.mono HB10.out.size))
    clear hb11
    go_wp2_with fail
    refine (HA.out w11 HB11.out).mono ?_
    rintro e w12 ⟨rfl, hb12⟩
    go_wp2_with fail
    go_ret
    exact ⟨rfl, HB11.out.trans (hb12.mono HB11.out.size)⟩

set_option maxRecDepth 100000 in
theorem arithBack_open {H : Type} {enc : TypeId × Value → H} {d0 : DataW H} {p0 : List MemPlace} {q : Prop} (W : World) (base : Nat) (v0 : Value)
    (h0 : DataW.Trod enc Tryd.prog W 0 (fun _ => true) true 22 v0 d0 p0)
    (k0 : Value.okWide Tryd.prog W .any base 22 v0) (_ : q) (hL : laidMetH Tryd.prog Rows.arithBackRow.laid W) :
    Calls Tryd.prog 4 #[v0] W fun e W' => e = .returned (.bool true) ∧ Below W.heap.size W W' := by
  obtain ⟨l, hs⟩ := sl_of k0 h0
  obtain ⟨s, he, hT⟩ := ar_of_laid (by kernel_rfl) ⟨("math/bits.deBruijn32tab", Rows.laid_math_bits_deBruijn32tab), ("math/bits.deBruijn64tab", Rows.laid_math_bits_deBruijn64tab), by kernel_rfl⟩ hL
  obtain ⟨oa, cap, rfl⟩ := sl_partsE hs
  obtain ⟨r, hr⟩ := parseP_some l
  cases r with
  | ok ex t => exact back_ok oa _ cap l ex t s W hs he hT hr
  | bad c p => exact back_bad oa _ cap l c p s W hs he hT hr
end Go.Proofs.YtlmoeldillpamaaDoor
namespace Go.Proofs.YtlmoeldillpamaaDoor
open Go.ChangeShapes Go.WideShapes Go.ChangeAt Go.RowKit

theorem arithBack_own : ownKnob Tryd.prog.godebug = none := by kernel_rfl
theorem arithBack_laidOut : laidOutB Tryd.prog = true := by kernel_rfl

set_option maxRecDepth 100000 in
theorem arithBack_lifted (os : Os) (started : os.Started) (H : Type) (enc : TypeId × Value → H) :
    ReturnsInHanded {} Tryd.checked os 4 .any (fun w args => (Rows.arithBackSpec.pre enc Tryd.prog Tryd.f4 [] false w args ∧ laidMetH Tryd.prog Rows.arithBackRow.laid w) ∧ sizedMet enc Tryd.prog Tryd.f4 (OpenSpec.ofChange Rows.arithBackSpec) false w args)
      (Rows.arithBackSpec.post enc Tryd.prog Tryd.f4 false true false false) := by
  refine returnsInHanded_of_change_and (C := Tryd.checked) (X := fun w _ => laidMetH Tryd.prog Rows.arithBackRow.laid w) (fun _ _ _ hh h => h.of_heap hh) arithBack_own started (by kernel_rfl) Tryd.func4
    (ChangeSpec.witness_shaped (enc := enc) (C := Tryd.checked) (os := os) (X := fun w _ => laidMetH Tryd.prog Rows.arithBackRow.laid w) false (World.laidAll Tryd.prog os Rows.arithBackRow.laid) #[.slice none 0 0] 8 (World.laidAll_os _ _ _)
      (World.shaped_of_ZipB (by kernel_rfl) (by kernel_rfl)) (by kernel_rfl) (by kernel_rfl) (by kernel_rfl)
      (by rw [MakeChecks.laidMetH_plain _ _ _ (by kernel_rfl)]; exact laidMet_laidAll _ (by kernel_rfl) (by kernel_rfl))) ?_
  intro W base args ds gs before hval0 hW _ hsz0 hL _
  have hval : ∀ (j : Nat) t v, Tryd.f4.params[j]? = some t → args[j]? = some v → Value.okWide Tryd.prog W .any base t v := hval0
  have hsz : (DataW.weightsEach Tryd.prog (Tryd.f4.params.toList ++ Rows.arithBackSpec.plain.varTypes Tryd.prog) (ds ++ gs)).all (· ≤ reachBytes) = true := hsz0
  clear hsz0
  have hW' := hW
  obtain ⟨p, q, hA0, hV, rfl, hfz, hnd⟩ := hW
  have hA : DataW.TrodAll enc Tryd.prog W 0 (fun _ => true) true Tryd.f4.params.toList args.toList ds p := hA0
  rw [Tryd.params4] at hA hval hsz
  obtain ⟨v0, d0, rfl, rfl, h0⟩ := trodAll_one hA
  obtain ⟨rfl, rfl⟩ := trodVars_none hV
  clear hA0 hval0
  simp only [List.append_nil] at hW'
  have hlt : ∀ x ∈ p, x.block < W.heap.size := fun x hx => by simpa using hW'.lt x hx
  refine (arithBack_open W base v0 h0 (hval 0 22 v0 rfl rfl) hsz hL).mono fun e W' ⟨he, hb⟩ => ?_
  subst he
  have e1 : Rows.arithBackSpec.fn H ([d0] ++ []) = { results := [.lit (.bool true)], args := [d0] } := by simp [Rows.arithBackSpec]
  refine ⟨_, rfl, _, _, _, [], p, [], hW', ?_, ?_, ?_, hb.frame _, fun h => by cases h⟩
  · rw [e1]; exact trodAll_mk1 (shut_bool Tryd.underlying4 true)
  · rw [e1]; exact trodAll_mk1 (Below.trod arithBack_laidOut (by kernel_rfl) (of_decide_eq_true (by kernel_rfl)) h0 hb (fun x hx => hlt x (by simp [hx])))
  · rw [e1]; rfl

theorem arithBack_said : Rows.ArithBackSaid :=
  OpenClaim.holds_of_wide 4 Tryd.f4 rfl rfl rfl rfl rfl rfl rfl ⟨rfl, rfl, rfl, rfl, rfl⟩ rfl rfl rfl rfl rfl (by kernel_rfl) Tryd.func4 (by kernel_rfl)
    (of_decide_eq_true (by kernel_rfl)) (by unfold Func.isWrapper; rw [if_neg (of_decide_eq_false (by kernel_rfl))]; exact ⟨rfl, rfl⟩)
    (fun os started H enc _ => arithBack_lifted os started H enc)

theorem arithBack_holds : Rows.ArithBackCardSaid :=
  Claim7.holds_tied_plain_at .later [] Rows.arithBackCard.laidKinds true Rows.arithBackCard.stood.harness Rows.arithBackCard.stood.looks
    arithBack_said (fun _ h => by cases h) (by kernel_rfl) (fun _ h => by cases h) arithBack_row_tie rfl ⟨rfl, rfl⟩ (by kernel_rfl) rfl
    (fun f fn hf hfn => by
      obtain rfl : f = 4 := Option.some.inj ((show Tryd.prog.funcNamed "pidgin/pidginlaw3.ArithBack" = some 4 by kernel_rfl).symm.trans hf) |>.symm
      obtain rfl : fn = Tryd.f4 := (Option.some.inj (Tryd.func4.symm.trans hfn)).symm
      exact ⟨by kernel_rfl, fun j t ht => by
        rw [Tryd.params4] at ht
        have hm : t ∈ [22] := by simpa using Array.mem_of_getElem? ht
        have hall : ([22].all fun u => !Tryd.prog.wantsStandIn u) = true := by kernel_rfl
        exact (show Tryd.prog.wantsStandIn t = false by simpa using List.all_eq_true.1 hall t hm)⟩)
    (by kernel_rfl)
#print axioms arithBack_holds
end Go.Proofs.YtlmoeldillpamaaDoor
