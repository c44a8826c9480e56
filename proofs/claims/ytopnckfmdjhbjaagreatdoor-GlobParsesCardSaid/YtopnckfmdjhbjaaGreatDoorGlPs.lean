/- GlobParses: its walk, opened (gen_gps.py). -/
import Derived.Test.YtopnckfmdjhbjaaGreatDoorGlPc
import Derived.Test.YtopnckfmdjhbjaaGreatDoorKRt
import Derived.Test.YtopnckfmdjhbjaaGreatDoorKRpa
import Derived.Test.YtopnckfmdjhbjaaGreatDoorGlO
import Derived.Test.YtopnckfmdjhbjaaGreatDoorGlQts
import Derived.Test.YtopnckfmdjhbjaaGreatDoorGlSam
import Derived.Test.YtopnckfmdjhbjaaGreatDoorKFb
import Derived.Test.YtopnckfmdjhbjaaGreatDoorFaSn2
import Derived.Test.YtopnckfmdjhbjaaGreatDoorRows
namespace Go.Proofs.YtopnckfmdjhbjaaGreatDoor
open Go.RowKit

set_option maxRecDepth 100000 in
set_option maxHeartbeats 16000000 in
theorem gps_walk (w : World) (v0 : Value) (ps : List Pc) (tx : ByteArray)
  (HP : Hid (Calls Tryz.prog 5 #[v0] w fun x w' => ∃ b, x = .returned (.tuple #[.pointer (some ⟨b, 0, none⟩), .nilIface]) ∧ PatAt w.heap.size b ps w' ∧ Below w.heap.size w w'))
  (HRP : Hid (∀ X, Below w.heap.size w X → Calls Tryz.prog 6 #[v0] X fun e w' => ∃ r, e = .returned (.tuple #[r, .agg #[.int .i64 0, .int .i64 0, .int .i64 0]]) ∧ w'.ownsRow X.heap.size 55 5 r ps.length (cellsL ps) ∧ Below X.heap.size X w'))
  (HPC : Hid (∀ B b X, PatAt B b ps X → Calls Tryz.prog 10 #[.pointer (some ⟨b, 0, none⟩)] X fun x w' => ∃ v, x = .returned v ∧ w'.ownsRow X.heap.size 55 5 v ps.length (cellsL ps) ∧ Below X.heap.size X w'))
  (HSM : Hid (∀ va vb Ba Bb X, X.ownsRow Ba 55 5 va ps.length (cellsL ps) → X.ownsRow Bb 55 5 vb ps.length (cellsL ps) → Calls Tryz.prog 9 #[va, vb] X fun x w' => x = .returned (.bool true) ∧ Below X.heap.size X w'))
  (HTX : Hid (∀ B b X, Below w.heap.size w X → PatAt B b ps X → Calls Tryz.prog 11 #[.pointer (some ⟨b, 0, none⟩)] X fun x w' => x = .returned (.string tx) ∧ Below X.heap.size X w'))
  (HRT : Hid (∀ B r X, X.ownsRow B 55 5 r ps.length (cellsL ps) → Calls Tryz.prog 12 #[r] X fun x w' => x = .returned (.string tx) ∧ Below X.heap.size X w'))
  (HA : Hid (∀ X, Below w.heap.size w X → Calls Tryz.prog 8 #[] X fun x w' => x = .returned (.bool true) ∧ Below X.heap.size X w')) :
  Calls Tryz.prog 3 #[v0] w fun x w' => x = .returned (.bool true) ∧ Below w.heap.size w w' := by
 have EF := Lib.hid (eq_fault 0 0 0)
 go_enter Tryz.func3, Tryz.ntmps3
 go_wp2_with fail
 refine HP.out.mono ?_
 rintro x w1 ⟨b, rfl, hp1, hb1⟩
 have HB1 := Lib.hid hb1
 have HP1 := Lib.hid hp1
 have HRP1 := Lib.hid (HRP.out w1 hb1)
 clear hb1 hp1
 go_wp2_with fail
 refine HRP1.out.mono ?_
 rintro x w2 ⟨r, rfl, hr2, hb2⟩
 have HI3 : Hid (GpI w w.heap.size b w1.heap.size r ps w2.heap.size (w2.alloc (.cells #[.int .i64 0, .int .i64 0, .int .i64 0] 30))) := Lib.hid ⟨(below_thn HB1.out (Nat.le_refl _) hb2).alloc (below_thn HB1.out (Nat.le_refl _) hb2).size _, (HP1.out.next hb2).next ((Below.refl _ _).alloc (Nat.le_refl _) _), hr2.alloc _, alloc_last w2 _⟩
 clear hr2 hb2
 go_wp2_with fail
 obtain ⟨w3, hV⟩ : ∃ V, V = (w2.alloc (.cells #[.int .i64 0, .int .i64 0, .int .i64 0] 30)) := ⟨_, rfl⟩
 rw [← hV] at HI3 ⊢
 clear hV
 refine Reg.wp_region_vals (fun X => GpI w w.heap.size b w1.heap.size r ps w2.heap.size X) (fun j => ([some (.nilIface), some (.agg #[.int .i64 0, .int .i64 0, .int .i64 0]), some (.agg #[.int .i64 0, .int .i64 0, .int .i64 0]), some (.bool false), some (.bool false), some (.pointer (some ⟨w2.heap.size, 0, none⟩)), some (.int .i64 0), some (.bool false), some (.bool false)] : List (Option Value)).getD j none) (fun _ _ _ => True) (by kernel_rfl) (by kernel_rfl) (by kernel_rfl) (by kernel_rfl) ?rs0 ?rsE ?rsZ
 case rs0 => exact HI3.out.nxt (Below.refl _ _).drew
 case rsE =>
  refine Reg.EachV.plain rfl (fun T X hS hk K hK => ?_) ?_
  ·skip
   have g4 : T[4]? = some (.nilIface) := hk.old 4 (by kernel_rfl) rfl
   have hK := hK _ X hS (Reg.Is.of_val rfl) (fun _ _ _ h => h)
   clear hk
   go_simp
   exact hK
  refine Reg.EachV.plain rfl (fun T X hS hk K hK => ?_) ?_
  ·skip
   have g17 : T[17]? = some (.nilIface) := hk.val 0 17 (by kernel_rfl) (by kernel_rfl) rfl
   clear hk
   go_simp
   refine (tell_nil X).mono ?_
   rintro e w1 ⟨rfl, hb⟩
   exact hK _ _ (hS.nxt hb) (Reg.Is.of_val rfl) (fun _ _ _ h => h)
  refine Reg.EachV.plain rfl (fun T X hS hk K hK => ?_) ?_
  ·skip
   have g6 : T[6]? = some (.pointer (some ⟨w2.heap.size, 0, none⟩)) := hk.old 6 (by kernel_rfl) rfl
   have y80 : X.cell? ⟨w2.heap.size, 0, none⟩ = some (.int .i64 0) := by rw [Lib.cell_of_heap hS.f]; rfl
   have y81 : X.cell? ⟨w2.heap.size, 1, none⟩ = some (.int .i64 0) := by rw [Lib.cell_of_heap hS.f]; rfl
   have y82 : X.cell? ⟨w2.heap.size, 2, none⟩ = some (.int .i64 0) := by rw [Lib.cell_of_heap hS.f]; rfl
   have yz := lt_blkB hS.f
   have hK := hK _ X hS (Reg.Is.of_val rfl) (fun _ _ _ h => h)
   clear hk
   go_simp
   exact hK
  refine Reg.EachV.plain rfl (fun T X hS hk K hK => ?_) ?_
  ·skip
   have g18 : T[18]? = some (.agg #[.int .i64 0, .int .i64 0, .int .i64 0]) := hk.val 1 18 (by kernel_rfl) (by kernel_rfl) rfl
   have g19 : T[19]? = some (.agg #[.int .i64 0, .int .i64 0, .int .i64 0]) := hk.val 2 19 (by kernel_rfl) (by kernel_rfl) rfl
   have q2 := EF.out
   have hK := hK _ X hS (Reg.Is.of_val rfl) (fun _ _ _ h => h)
   clear hk
   go_simp
   exact hK
  refine Reg.EachV.plain rfl (fun T X hS hk K hK => ?_) ?_
  ·skip
   have g20 : T[20]? = some (.bool false) := hk.val 3 20 (by kernel_rfl) (by kernel_rfl) rfl
   have hK := hK _ X hS (Reg.Is.of_val rfl) (fun _ _ _ h => h)
   clear hk
   go_simp
   exact hK
  refine Reg.EachV.guarded 4 21 false rfl (by kernel_rfl) (by kernel_rfl) rfl (fun T X hS hk K hK => ?_) ?_
  ·skip
   have g6 : T[6]? = some (.pointer (some ⟨w2.heap.size, 0, none⟩)) := hk.old 6 (by kernel_rfl) rfl
   have y80 : X.cell? ⟨w2.heap.size, 0, none⟩ = some (.int .i64 0) := by rw [Lib.cell_of_heap hS.f]; rfl
   have y81 : X.cell? ⟨w2.heap.size, 1, none⟩ = some (.int .i64 0) := by rw [Lib.cell_of_heap hS.f]; rfl
   have y82 : X.cell? ⟨w2.heap.size, 2, none⟩ = some (.int .i64 0) := by rw [Lib.cell_of_heap hS.f]; rfl
   have yz := lt_blkB hS.f
   have hK := hK _ X hS (Reg.Is.of_val rfl) (fun _ _ _ h => h)
   clear hk
   go_simp
   exact hK
  refine Reg.EachV.guarded 4 21 false rfl (by kernel_rfl) (by kernel_rfl) rfl (fun T X hS hk K hK => ?_) ?_
  ·skip
   have g22 : T[22]? = some (.pointer (some ⟨w2.heap.size, 0, none⟩)) := hk.val 5 22 (by kernel_rfl) (by kernel_rfl) rfl
   have y80 : X.cell? ⟨w2.heap.size, 0, none⟩ = some (.int .i64 0) := by rw [Lib.cell_of_heap hS.f]; rfl
   have y81 : X.cell? ⟨w2.heap.size, 1, none⟩ = some (.int .i64 0) := by rw [Lib.cell_of_heap hS.f]; rfl
   have y82 : X.cell? ⟨w2.heap.size, 2, none⟩ = some (.int .i64 0) := by rw [Lib.cell_of_heap hS.f]; rfl
   have yz := lt_blkB hS.f
   have hK := hK _ X hS (Reg.Is.of_val rfl) (fun _ _ _ h => h)
   clear hk
   go_simp
   exact hK
  refine Reg.EachV.guarded 4 21 false rfl (by kernel_rfl) (by kernel_rfl) rfl (fun T X hS hk K hK => ?_) ?_
  ·skip
   have g23 : T[23]? = some (.int .i64 0) := hk.val 6 23 (by kernel_rfl) (by kernel_rfl) rfl
   have hK := hK _ X hS (Reg.Is.of_val rfl) (fun _ _ _ h => h)
   clear hk
   go_simp
   exact hK
  refine Reg.EachV.plain rfl (fun T X hS hk K hK => ?_) ?_
  ·skip
   have g21 : T[21]? = some (.bool false) := hk.val 4 21 (by kernel_rfl) (by kernel_rfl) rfl
   have g24 : T[24]? = some (.bool false) := hk.val 7 24 (by kernel_rfl) (by kernel_rfl) rfl
   have hK := hK _ X hS (Reg.Is.of_val rfl) (fun _ _ _ h => h)
   clear hk
   go_simp
   exact hK
  exact Reg.EachV.nil
 case rsZ =>
  intro u w4 hS hI
  have e0 : u 0 = .nilIface := (hI 0 (by decide)).val rfl
  have e1 : u 1 = .agg #[.int .i64 0, .int .i64 0, .int .i64 0] := (hI 1 (by decide)).val rfl
  have e2 : u 2 = .agg #[.int .i64 0, .int .i64 0, .int .i64 0] := (hI 2 (by decide)).val rfl
  have e3 : u 3 = .bool false := (hI 3 (by decide)).val rfl
  have e4 : u 4 = .bool false := (hI 4 (by decide)).val rfl
  have e5 : u 5 = .pointer (some ⟨w2.heap.size, 0, none⟩) := (hI 5 (by decide)).val rfl
  have e6 : u 6 = .int .i64 0 := (hI 6 (by decide)).val rfl
  have e7 : u 7 = .bool false := (hI 7 (by decide)).val rfl
  have e8 : u 8 = .bool false := (hI 8 (by decide)).val rfl
  clear hI
  simp only [Reg.putAll, Act.put, List.setIfInBounds_toArray, List.set_cons_succ, List.set_cons_zero, Nat.zero_add, Nat.reduceAdd, e0, e1, e2, e3, e4, e5, e6, e7, e8]
  clear e0 e1 e2 e3 e4 e5 e6 e7 e8
  have HI4 := Lib.hid hS
  clear hS
  have HPC4 := Lib.hid (HPC.out _ _ _ HI4.out.pat)
  go_wp2_with fail
  refine HPC4.out.mono ?_
  rintro x w5 ⟨vp, rfl, hr5, hb5⟩
  have HI5 := Lib.hid (HI4.out.nxt hb5)
  have HS5 := Lib.hid (HSM.out vp r _ _ w5 hr5 HI5.out.row)
  clear hr5 hb5
  go_wp2_with fail
  refine HS5.out.mono ?_
  rintro x w6 ⟨rfl, hb6⟩
  have HI6 := Lib.hid (HI5.out.nxt hb6)
  clear hb6
  have HT6 := Lib.hid (HTX.out _ _ _ HI6.out.bel HI6.out.pat)
  go_wp2_with fail
  refine HT6.out.mono ?_
  rintro x w7 ⟨rfl, hb7⟩
  have HI7 := Lib.hid (HI6.out.nxt hb7)
  clear hb7
  have HT7 := Lib.hid (HRT.out _ _ _ HI7.out.row)
  go_wp2_with fail
  refine HT7.out.mono ?_
  rintro x w8 ⟨rfl, hb8⟩
  have HI8 := Lib.hid (HI7.out.nxt hb8)
  clear hb8
  go_wp2_with fail
  refine (HA.out _ HI8.out.bel).mono ?_
  rintro x w9 ⟨rfl, hb9⟩
  have HZ := Lib.hid (below_thn HI8.out.bel (Nat.le_refl _) hb9)
  clear hb9
  go_wp2
  go_ret
  exact ⟨rfl, HZ.out⟩

set_option maxRecDepth 100000 in
set_option maxHeartbeats 16000000 in
theorem gps_long (w : World) (v0 : Value) (Φ : Value → World → Prop)
  (HP : Hid (Calls Tryz.prog 5 #[v0] w fun x w' => ∃ v, x = .returned (.tuple #[.pointer none, v]) ∧ Φ v w' ∧ Below w.heap.size w w'))
  (HRP : Hid (∀ X, Calls Tryz.prog 6 #[v0] X fun e w' => e = .returned (.tuple #[.slice none 0 0, .agg #[.int .i64 2, .int .i64 0, .int .i64 2]]) ∧ Below X.heap.size X w'))
  (HT : Hid (∀ v w1 X, Φ v w1 → Below w.heap.size w w1 → Below w1.heap.size w1 X → Calls Tryz.prog 7 #[v] X fun x w' => x = .returned (.agg #[.int .i64 2, .int .i64 0, .int .i64 2]) ∧ Below X.heap.size X w'))
  (HA : Hid (∀ X, Below w.heap.size w X → Calls Tryz.prog 8 #[] X fun x w' => x = .returned (.bool true) ∧ Below X.heap.size X w')) :
  Calls Tryz.prog 3 #[v0] w fun x w' => x = .returned (.bool true) ∧ Below w.heap.size w w' := by
 have EF := Lib.hid (eq_fault 2 0 2)
 go_enter Tryz.func3, Tryz.ntmps3
 go_wp2_with fail
 refine HP.out.mono ?_
 rintro x w1 ⟨v, rfl, hΦ, hb1⟩
 have HB1 := Lib.hid hb1
 have HTT := Lib.hid (fun X hX => HT.out v w1 X hΦ hb1 hX)
 clear hb1 hΦ
 go_wp2_with fail
 refine (HRP.out _).mono ?_
 rintro x w2 ⟨rfl, hb2⟩
 have HI3 : Hid (GqI w w1 w2.heap.size (w2.alloc (.cells #[.int .i64 2, .int .i64 0, .int .i64 2] 30))) := Lib.hid ⟨(below_thn HB1.out (Nat.le_refl _) hb2).alloc (below_thn HB1.out (Nat.le_refl _) hb2).size _, hb2.alloc hb2.size _, alloc_last w2 _⟩
 clear hb2
 go_wp2_with fail
 obtain ⟨w3, hV⟩ : ∃ V, V = (w2.alloc (.cells #[.int .i64 2, .int .i64 0, .int .i64 2] 30)) := ⟨_, rfl⟩
 rw [← hV] at HI3 ⊢
 clear hV
 refine Reg.wp_region_vals (fun X => GqI w w1 w2.heap.size X) (fun j => ([some (v), some (.agg #[.int .i64 2, .int .i64 0, .int .i64 2]), some (.agg #[.int .i64 2, .int .i64 0, .int .i64 2]), some (.bool false), some (.bool false), some (.pointer (some ⟨w2.heap.size, 0, none⟩)), some (.int .i64 2), some (.bool true), some (.bool true)] : List (Option Value)).getD j none) (fun _ _ _ => True) (by kernel_rfl) (by kernel_rfl) (by kernel_rfl) (by kernel_rfl) ?rs0 ?rsE ?rsZ
 case rs0 => exact HI3.out.nxt (Below.refl _ _).drew
 case rsE =>
  refine Reg.EachV.plain rfl (fun T X hS hk K hK => ?_) ?_
  ·skip
   have g4 : T[4]? = some (v) := hk.old 4 (by kernel_rfl) rfl
   have hK := hK _ X hS (Reg.Is.of_val rfl) (fun _ _ _ h => h)
   clear hk
   go_simp
   exact hK
  refine Reg.EachV.plain rfl (fun T X hS hk K hK => ?_) ?_
  ·skip
   have g17 : T[17]? = some (v) := hk.val 0 17 (by kernel_rfl) (by kernel_rfl) rfl
   clear hk
   go_simp
   refine (HTT.out X hS.bel1).mono ?_
   rintro e w1 ⟨rfl, hb⟩
   exact hK _ _ (hS.nxt hb) (Reg.Is.of_val rfl) (fun _ _ _ h => h)
  refine Reg.EachV.plain rfl (fun T X hS hk K hK => ?_) ?_
  ·skip
   have g6 : T[6]? = some (.pointer (some ⟨w2.heap.size, 0, none⟩)) := hk.old 6 (by kernel_rfl) rfl
   have y80 : X.cell? ⟨w2.heap.size, 0, none⟩ = some (.int .i64 2) := by rw [Lib.cell_of_heap hS.f]; rfl
   have y81 : X.cell? ⟨w2.heap.size, 1, none⟩ = some (.int .i64 0) := by rw [Lib.cell_of_heap hS.f]; rfl
   have y82 : X.cell? ⟨w2.heap.size, 2, none⟩ = some (.int .i64 2) := by rw [Lib.cell_of_heap hS.f]; rfl
   have yz := lt_blkB hS.f
   have hK := hK _ X hS (Reg.Is.of_val rfl) (fun _ _ _ h => h)
   clear hk
   go_simp
   exact hK
  refine Reg.EachV.plain rfl (fun T X hS hk K hK => ?_) ?_
  ·skip
   have g18 : T[18]? = some (.agg #[.int .i64 2, .int .i64 0, .int .i64 2]) := hk.val 1 18 (by kernel_rfl) (by kernel_rfl) rfl
   have g19 : T[19]? = some (.agg #[.int .i64 2, .int .i64 0, .int .i64 2]) := hk.val 2 19 (by kernel_rfl) (by kernel_rfl) rfl
   have q2 := EF.out
   have hK := hK _ X hS (Reg.Is.of_val rfl) (fun _ _ _ h => h)
   clear hk
   go_simp
   exact hK
  refine Reg.EachV.plain rfl (fun T X hS hk K hK => ?_) ?_
  ·skip
   have g20 : T[20]? = some (.bool false) := hk.val 3 20 (by kernel_rfl) (by kernel_rfl) rfl
   have hK := hK _ X hS (Reg.Is.of_val rfl) (fun _ _ _ h => h)
   clear hk
   go_simp
   exact hK
  refine Reg.EachV.guarded 4 21 false rfl (by kernel_rfl) (by kernel_rfl) rfl (fun T X hS hk K hK => ?_) ?_
  ·skip
   have g6 : T[6]? = some (.pointer (some ⟨w2.heap.size, 0, none⟩)) := hk.old 6 (by kernel_rfl) rfl
   have y80 : X.cell? ⟨w2.heap.size, 0, none⟩ = some (.int .i64 2) := by rw [Lib.cell_of_heap hS.f]; rfl
   have y81 : X.cell? ⟨w2.heap.size, 1, none⟩ = some (.int .i64 0) := by rw [Lib.cell_of_heap hS.f]; rfl
   have y82 : X.cell? ⟨w2.heap.size, 2, none⟩ = some (.int .i64 2) := by rw [Lib.cell_of_heap hS.f]; rfl
   have yz := lt_blkB hS.f
   have hK := hK _ X hS (Reg.Is.of_val rfl) (fun _ _ _ h => h)
   clear hk
   go_simp
   exact hK
  refine Reg.EachV.guarded 4 21 false rfl (by kernel_rfl) (by kernel_rfl) rfl (fun T X hS hk K hK => ?_) ?_
  ·skip
   have g22 : T[22]? = some (.pointer (some ⟨w2.heap.size, 0, none⟩)) := hk.val 5 22 (by kernel_rfl) (by kernel_rfl) rfl
   have y80 : X.cell? ⟨w2.heap.size, 0, none⟩ = some (.int .i64 2) := by rw [Lib.cell_of_heap hS.f]; rfl
   have y81 : X.cell? ⟨w2.heap.size, 1, none⟩ = some (.int .i64 0) := by rw [Lib.cell_of_heap hS.f]; rfl
   have y82 : X.cell? ⟨w2.heap.size, 2, none⟩ = some (.int .i64 2) := by rw [Lib.cell_of_heap hS.f]; rfl
   have yz := lt_blkB hS.f
   have hK := hK _ X hS (Reg.Is.of_val rfl) (fun _ _ _ h => h)
   clear hk
   go_simp
   exact hK
  refine Reg.EachV.guarded 4 21 false rfl (by kernel_rfl) (by kernel_rfl) rfl (fun T X hS hk K hK => ?_) ?_
  ·skip
   have g23 : T[23]? = some (.int .i64 2) := hk.val 6 23 (by kernel_rfl) (by kernel_rfl) rfl
   have hK := hK _ X hS (Reg.Is.of_val rfl) (fun _ _ _ h => h)
   clear hk
   go_simp
   exact hK
  refine Reg.EachV.plain rfl (fun T X hS hk K hK => ?_) ?_
  ·skip
   have g21 : T[21]? = some (.bool false) := hk.val 4 21 (by kernel_rfl) (by kernel_rfl) rfl
   have g24 : T[24]? = some (.bool true) := hk.val 7 24 (by kernel_rfl) (by kernel_rfl) rfl
   have hK := hK _ X hS (Reg.Is.of_val rfl) (fun _ _ _ h => h)
   clear hk
   go_simp
   exact hK
  exact Reg.EachV.nil
 case rsZ =>
  intro u w4 hS hI
  have e0 : u 0 = v := (hI 0 (by decide)).val rfl
  have e1 : u 1 = .agg #[.int .i64 2, .int .i64 0, .int .i64 2] := (hI 1 (by decide)).val rfl
  have e2 : u 2 = .agg #[.int .i64 2, .int .i64 0, .int .i64 2] := (hI 2 (by decide)).val rfl
  have e3 : u 3 = .bool false := (hI 3 (by decide)).val rfl
  have e4 : u 4 = .bool false := (hI 4 (by decide)).val rfl
  have e5 : u 5 = .pointer (some ⟨w2.heap.size, 0, none⟩) := (hI 5 (by decide)).val rfl
  have e6 : u 6 = .int .i64 2 := (hI 6 (by decide)).val rfl
  have e7 : u 7 = .bool true := (hI 7 (by decide)).val rfl
  have e8 : u 8 = .bool true := (hI 8 (by decide)).val rfl
  clear hI
  simp only [Reg.putAll, Act.put, List.setIfInBounds_toArray, List.set_cons_succ, List.set_cons_zero, Nat.zero_add, Nat.reduceAdd, e0, e1, e2, e3, e4, e5, e6, e7, e8]
  clear e0 e1 e2 e3 e4 e5 e6 e7 e8
  have HI4 := Lib.hid hS
  clear hS
  go_wp2_with fail
  refine Reg.wp_region_vals (fun X => GqI w w1 w2.heap.size X) (fun j => ([some (v), some (.agg #[.int .i64 2, .int .i64 0, .int .i64 2]), some (.agg #[.int .i64 2, .int .i64 0, .int .i64 2]), some (.bool true), some (.bool true), some (.pointer none), some (.bool true), some (.bool true), some (.bool true), some (.bool true), some (.bool true), some (.bool true)] : List (Option Value)).getD j none) (fun _ _ _ => True) (by kernel_rfl) (by kernel_rfl) (by kernel_rfl) (by kernel_rfl) ?rs0 ?rsE ?rsZ
  case rs0 => exact HI4.out.nxt (Below.refl _ _).drew
  case rsE =>
   refine Reg.EachV.plain rfl (fun T X hS hk K hK => ?_) ?_
   ·skip
    have g4 : T[4]? = some (v) := hk.old 4 (by kernel_rfl) rfl
    have hK := hK _ X hS (Reg.Is.of_val rfl) (fun _ _ _ h => h)
    clear hk
    go_simp
    exact hK
   refine Reg.EachV.plain rfl (fun T X hS hk K hK => ?_) ?_
   ·skip
    have g26 : T[26]? = some (v) := hk.val 0 26 (by kernel_rfl) (by kernel_rfl) rfl
    clear hk
    go_simp
    refine (HTT.out X hS.bel1).mono ?_
    rintro e w1 ⟨rfl, hb⟩
    exact hK _ _ (hS.nxt hb) (Reg.Is.of_val rfl) (fun _ _ _ h => h)
   refine Reg.EachV.plain rfl (fun T X hS hk K hK => ?_) ?_
   ·skip
    have g6 : T[6]? = some (.pointer (some ⟨w2.heap.size, 0, none⟩)) := hk.old 6 (by kernel_rfl) rfl
    have y80 : X.cell? ⟨w2.heap.size, 0, none⟩ = some (.int .i64 2) := by rw [Lib.cell_of_heap hS.f]; rfl
    have y81 : X.cell? ⟨w2.heap.size, 1, none⟩ = some (.int .i64 0) := by rw [Lib.cell_of_heap hS.f]; rfl
    have y82 : X.cell? ⟨w2.heap.size, 2, none⟩ = some (.int .i64 2) := by rw [Lib.cell_of_heap hS.f]; rfl
    have yz := lt_blkB hS.f
    have hK := hK _ X hS (Reg.Is.of_val rfl) (fun _ _ _ h => h)
    clear hk
    go_simp
    exact hK
   refine Reg.EachV.plain rfl (fun T X hS hk K hK => ?_) ?_
   ·skip
    have g27 : T[27]? = some (.agg #[.int .i64 2, .int .i64 0, .int .i64 2]) := hk.val 1 27 (by kernel_rfl) (by kernel_rfl) rfl
    have g28 : T[28]? = some (.agg #[.int .i64 2, .int .i64 0, .int .i64 2]) := hk.val 2 28 (by kernel_rfl) (by kernel_rfl) rfl
    have q2 := EF.out
    have hK := hK _ X hS (Reg.Is.of_val rfl) (fun _ _ _ h => h)
    clear hk
    go_simp
    exact hK
   refine Reg.EachV.plain rfl (fun T X hS hk K hK => ?_) ?_
   ·skip
    have g29 : T[29]? = some (.bool true) := hk.val 3 29 (by kernel_rfl) (by kernel_rfl) rfl
    have hK := hK _ X hS (Reg.Is.of_val rfl) (fun _ _ _ h => h)
    clear hk
    go_simp
    exact hK
   refine Reg.EachV.guarded 4 30 true rfl (by kernel_rfl) (by kernel_rfl) rfl (fun T X hS hk K hK => ?_) ?_
   ·skip
    have g3 : T[3]? = some (.pointer none) := hk.old 3 (by kernel_rfl) rfl
    have hK := hK _ X hS (Reg.Is.of_val rfl) (fun _ _ _ h => h)
    clear hk
    go_simp
    exact hK
   refine Reg.EachV.guarded 4 30 true rfl (by kernel_rfl) (by kernel_rfl) rfl (fun T X hS hk K hK => ?_) ?_
   ·skip
    have g31 : T[31]? = some (.pointer none) := hk.val 5 31 (by kernel_rfl) (by kernel_rfl) rfl
    have hK := hK _ X hS (Reg.Is.of_val rfl) (fun _ _ _ h => h)
    clear hk
    go_simp
    exact hK
   refine Reg.EachV.plain rfl (fun T X hS hk K hK => ?_) ?_
   ·skip
    have g30 : T[30]? = some (.bool true) := hk.val 4 30 (by kernel_rfl) (by kernel_rfl) rfl
    have g32 : T[32]? = some (.bool true) := hk.val 6 32 (by kernel_rfl) (by kernel_rfl) rfl
    have hK := hK _ X hS (Reg.Is.of_val rfl) (fun _ _ _ h => h)
    clear hk
    go_simp
    exact hK
   refine Reg.EachV.plain rfl (fun T X hS hk K hK => ?_) ?_
   ·skip
    have g33 : T[33]? = some (.bool true) := hk.val 7 33 (by kernel_rfl) (by kernel_rfl) rfl
    have hK := hK _ X hS (Reg.Is.of_val rfl) (fun _ _ _ h => h)
    clear hk
    go_simp
    exact hK
   refine Reg.EachV.guarded 8 34 true rfl (by kernel_rfl) (by kernel_rfl) rfl (fun T X hS hk K hK => ?_) ?_
   ·skip
    clear hk
    go_simp
    refine (HA.out X hS.bel).mono ?_
    rintro e w1 ⟨rfl, hb⟩
    exact hK _ _ (hS.nxt hb) (Reg.Is.of_val rfl) (fun _ _ _ h => h)
   refine Reg.EachV.plain rfl (fun T X hS hk K hK => ?_) ?_
   ·skip
    have g34 : T[34]? = some (.bool true) := hk.val 8 34 (by kernel_rfl) (by kernel_rfl) rfl
    have g35 : T[35]? = some (.bool true) := hk.val 9 35 (by kernel_rfl) (by kernel_rfl) rfl
    have hK := hK _ X hS (Reg.Is.of_val rfl) (fun _ _ _ h => h)
    clear hk
    go_simp
    exact hK
   refine Reg.EachV.plain rfl (fun T X hS hk K hK => ?_) ?_
   ·skip
    have g36 : T[36]? = some (.bool true) := hk.val 10 36 (by kernel_rfl) (by kernel_rfl) rfl
    have hK := hK _ X hS (Reg.Is.of_val rfl) (fun _ _ _ h => h)
    clear hk
    go_simp
    exact hK
   exact Reg.EachV.nil
  case rsZ =>
   intro u w5 hS hI
   have e0 : u 0 = v := (hI 0 (by decide)).val rfl
   have e1 : u 1 = .agg #[.int .i64 2, .int .i64 0, .int .i64 2] := (hI 1 (by decide)).val rfl
   have e2 : u 2 = .agg #[.int .i64 2, .int .i64 0, .int .i64 2] := (hI 2 (by decide)).val rfl
   have e3 : u 3 = .bool true := (hI 3 (by decide)).val rfl
   have e4 : u 4 = .bool true := (hI 4 (by decide)).val rfl
   have e5 : u 5 = .pointer none := (hI 5 (by decide)).val rfl
   have e6 : u 6 = .bool true := (hI 6 (by decide)).val rfl
   have e7 : u 7 = .bool true := (hI 7 (by decide)).val rfl
   have e8 : u 8 = .bool true := (hI 8 (by decide)).val rfl
   have e9 : u 9 = .bool true := (hI 9 (by decide)).val rfl
   have e10 : u 10 = .bool true := (hI 10 (by decide)).val rfl
   have e11 : u 11 = .bool true := (hI 11 (by decide)).val rfl
   clear hI
   simp only [Reg.putAll, Act.put, List.setIfInBounds_toArray, List.set_cons_succ, List.set_cons_zero, Nat.zero_add, Nat.reduceAdd, e0, e1, e2, e3, e4, e5, e6, e7, e8, e9, e10, e11]
   clear e0 e1 e2 e3 e4 e5 e6 e7 e8 e9 e10 e11
   have HZ := Lib.hid hS.bel
   clear hS
   go_wp2
   go_ret
   exact ⟨rfl, HZ.out⟩

theorem gps_any (cf : ByteArray → (Nat → Bool) × Bool) (hcf : ClassOk cf) (hrf : ClassRf cf) (e : Nat → Addr) (w : World) (v0 : Value) (l : List Int) (hs : Sl w v0 l) (hsn : Snt w e) (hT : TZ w) (hD : DB w) :
  Calls Tryz.prog 3 #[v0] w fun x w' => x = .returned (.bool true) ∧ Below w.heap.size w w' := by
 have hes : Es w w.heap.size e := ⟨hsn.var, by have := hsn.low; omega, Nat.le_refl _⟩
 have HA : Hid (∀ X, Below w.heap.size w X → Calls Tryz.prog 8 #[] X fun x w' => x = .returned (.bool true) ∧ Below X.heap.size X w') := Lib.hid fun X hX => awake6_any cf hcf e X ⟨(hes.below hX).var, Nat.lt_of_lt_of_le hes.low hX.size, Nat.le_refl _⟩ (hT.below hX) (hD.below hX)
 by_cases hp : l.length ≤ 256
 ·have hpl : (glP cf l).length ≤ 256 := Nat.le_trans (glP_len cf l) hp
  exact gps_walk w v0 (glP cf l) (jnG (glP cf l)) (Lib.hid (parse_ok cf hcf e v0 l w hes hT hs hp)) (Lib.hid fun X hX => rpat_any cf hrf v0 l X (hs.below hX) hp)
   (Lib.hid fun B b X h => pieces_any B b (glP cf l) X h (by omega)) (Lib.hid fun va vb Ba Bb X h1 h2 => same_any va vb (glP cf l) Ba Bb X h1 h2 (by omega))
   (Lib.hid fun B b X hX h => gtext_any B b (glP cf l) X h (by omega) (hT.below hX) (hD.below hX)) (Lib.hid fun B r X h => rptext_any (glP cf l) r B X h hpl) HA
 ·obtain ⟨a0, c0, rfl⟩ : ∃ a0 c0, v0 = .slice a0 l.length c0 := by
   rcases hs.2.2 with ⟨rfl, ad, cap, rfl⟩ | ⟨x, o, cap, rfl, _⟩
   ·exact ⟨ad, cap, rfl⟩
   ·exact ⟨_, cap, rfl⟩
  refine gps_long w _ (fun v w' => ErrS w' w.heap.size e 2 2 0 v) (Lib.hid (parse_long e a0 l.length c0 (by omega) w hes)) (Lib.hid fun X => rpat_long a0 l.length c0 (by omega) X) (Lib.hid fun v w1 X her hb1 hX => ?_) HA
  have her' : ErrS X w.heap.size e 2 2 0 v := her.kept hX.size fun j _ hj => hX.block j hj
  have hX2 := below_thn hb1 (Nat.le_refl _) hX
  have := tell_any [(true, 2), (false, 0)] v (e 2) e 2 X (hsn.below hX2) ((hsn.below hX2).rt 2 (by decide) (by decide)) her'.chn
  simpa [firstOf] using this

set_option maxRecDepth 100000 in
theorem globParses_open {H : Type} {enc : TypeId × Value → H} {d0 : DataW H} {p0 : List MemPlace} {q : Prop} (W : World) (base : Nat) (v0 : Value)
  (h0 : DataW.Trod enc Tryz.prog W 0 (fun _ => true) true 22 v0 d0 p0)
  (k0 : Value.okWide Tryz.prog W .any base 22 v0) (_ : q) (hL : laidMetH Tryz.prog Rows.globParsesRow.laid W) :
  Calls Tryz.prog 3 #[v0] W fun e W' => e = .returned (.bool true) ∧ Below W.heap.size W W' := by
 obtain ⟨_, _, hT, hD⟩ := gl_of_laid (by kernel_rfl) (by kernel_rfl) hL
 obtain ⟨e, hsn⟩ := snt_of_laid3 (by kernel_rfl) (by kernel_rfl) hL
 obtain ⟨cf, hcf, hrf⟩ := classes_ok2
 obtain ⟨l0, hs0, _⟩ := sl_of_w k0 h0
 exact gps_any cf hcf hrf e W v0 l0 hs0 hsn hT hD
end Go.Proofs.YtopnckfmdjhbjaaGreatDoor
