/- GlobPlain: its walk, opened (gen_gpl.py). -/
import Derived.Test.YtopnckfmdjhbjaaGreatDoorRqP
import Derived.Test.YtopnckfmdjhbjaaGreatDoorGlPc
import Derived.Test.YtopnckfmdjhbjaaGreatDoorScOpen
import Derived.Test.YtopnckfmdjhbjaaGreatDoorRows
namespace Go.Proofs.YtopnckfmdjhbjaaGreatDoor
open Go.RowKit

set_option maxRecDepth 100000 in
set_option maxHeartbeats 16000000 in
theorem gpl_walk (w : World) (v0 : Value) (ps : List Pc) (s qs tx : ByteArray) (ok : Bool)
    (HP : Hid (Calls Tryz.prog 5 #[v0] w fun x w' => ∃ b, x = .returned (.tuple #[.pointer (some ⟨b, 0, none⟩), .nilIface]) ∧ PatAt w.heap.size b ps w' ∧ Below w.heap.size w w'))
    (HRP : Hid (∀ X, Below w.heap.size w X → Calls Tryz.prog 6 #[v0] X fun e w' => ∃ r, e = .returned (.tuple #[r, .agg #[.int .i64 0, .int .i64 0, .int .i64 0]]) ∧ w'.ownsRow X.heap.size 55 5 r ps.length (cellsL ps) ∧ Below X.heap.size X w'))
    (HQ : Hid (∀ X, Calls Tryz.prog 13 #[.string s] X fun x w' => x = .returned (.string qs) ∧ Below X.heap.size X w'))
    (HRQ : Hid (∀ X, Calls Tryz.prog 14 #[.string s] X fun x w' => x = .returned (.string qs) ∧ Below X.heap.size X w'))
    (HPL : Hid (∀ B b X, PatAt B b ps X → Calls Tryz.prog 15 #[.pointer (some ⟨b, 0, none⟩)] X fun x w' => x = .returned (.tuple #[.string tx, .bool ok]) ∧ Below X.heap.size X w'))
    (HRL : Hid (∀ B r X, X.ownsRow B 55 5 r ps.length (cellsL ps) → Calls Tryz.prog 16 #[r] X fun x w' => x = .returned (.tuple #[.string tx, .bool ok]) ∧ Below X.heap.size X w'))
    (HA : Hid (∀ X, Below w.heap.size w X → Calls Tryz.prog 8 #[] X fun x w' => x = .returned (.bool true) ∧ Below X.heap.size X w')) :
    Calls Tryz.prog 4 #[v0, .string s] w fun x w' => x = .returned (.bool true) ∧ Below w.heap.size w w' := by
  have EF := Lib.hid (eq_fault 0 0 0)
  go_enter Tryz.func4, Tryz.ntmps4
  go_wp2_with fail
  refine HP.out.mono ?_
  rintro x w1 ⟨b, rfl, hp1, hb1⟩
  have HB1 := Lib.hid hb1
  have HP1 := Lib.hid hp1
  have HRP1 := Lib.hid (HRP.out w1 hb1)
  clear hb1 hp1
  go_wp2_with fail
  refine HRP1.out.mono ?_
  rintro x w2 ⟨r, rfl, hr2, hb2⟩
  have HI3 : Hid (GpI w w.heap.size b w1.heap.size r ps w2.heap.size (w2.alloc (.cells #[.int .i64 0, .int .i64 0, .int .i64 0] 30))) := Lib.hid ⟨(below_thn HB1.out (Nat.le_refl _) hb2).alloc (below_thn HB1.out (Nat.le_refl _) hb2).size _, (HP1.out.next hb2).next ((Below.refl _ _).alloc (Nat.le_refl _) _), hr2.alloc _, alloc_last w2 _⟩
  clear hr2 hb2
  go_wp2_with fail
  obtain ⟨w3, hV⟩ : ∃ V, V = (w2.alloc (.cells #[.int .i64 0, .int .i64 0, .int .i64 0] 30)) := ⟨_, rfl⟩
  rw [← hV] at HI3 ⊢
  clear hV
  refine Reg.wp_region_vals (fun X => GpI w w.heap.size b w1.heap.size r ps w2.heap.size X) (fun j => ([some (.nilIface), some (.agg #[.int .i64 0, .int .i64 0, .int .i64 0]), some (.agg #[.int .i64 0, .int .i64 0, .int .i64 0]), some (.bool false), some (.bool false), some (.string s), some (.string qs), some (.string s), some (.string qs), some (.bool false), some (.bool false)] : List (Option Value)).getD j none) (fun _ _ _ => True) (by kernel_rfl) (by kernel_rfl) (by kernel_rfl) (by kernel_rfl) ?rs0 ?rsE ?rsZ
  case rs0 => exact HI3.out.nxt (Below.refl _ _).drew
  case rsE =>
    refine Reg.EachV.plain rfl (fun T X hS hk K hK => ?_) ?_
    · skip
      have g6 : T[6]? = some (.nilIface) := hk.old 6 (by kernel_rfl) rfl
      have hK := hK _ X hS (Reg.Is.of_val rfl) (fun _ _ _ h => h)
      clear hk
      go_simp
      exact hK
    refine Reg.EachV.plain rfl (fun T X hS hk K hK => ?_) ?_
    · skip
      have g23 : T[23]? = some (.nilIface) := hk.val 0 23 (by kernel_rfl) (by kernel_rfl) rfl
      clear hk
      go_simp
      refine (tell_nil X).mono ?_
      rintro e w1 ⟨rfl, hb⟩
      exact hK _ _ (hS.nxt hb) (Reg.Is.of_val rfl) (fun _ _ _ h => h)
    refine Reg.EachV.plain rfl (fun T X hS hk K hK => ?_) ?_
    · skip
      have g8 : T[8]? = some (.pointer (some ⟨w2.heap.size, 0, none⟩)) := hk.old 8 (by kernel_rfl) rfl
      have y80 : X.cell? ⟨w2.heap.size, 0, none⟩ = some (.int .i64 0) := by rw [Lib.cell_of_heap hS.f]; rfl
      have y81 : X.cell? ⟨w2.heap.size, 1, none⟩ = some (.int .i64 0) := by rw [Lib.cell_of_heap hS.f]; rfl
      have y82 : X.cell? ⟨w2.heap.size, 2, none⟩ = some (.int .i64 0) := by rw [Lib.cell_of_heap hS.f]; rfl
      have yz := lt_blkB hS.f
      have hK := hK _ X hS (Reg.Is.of_val rfl) (fun _ _ _ h => h)
      clear hk
      go_simp
      exact hK
    refine Reg.EachV.plain rfl (fun T X hS hk K hK => ?_) ?_
    · skip
      have g24 : T[24]? = some (.agg #[.int .i64 0, .int .i64 0, .int .i64 0]) := hk.val 1 24 (by kernel_rfl) (by kernel_rfl) rfl
      have g25 : T[25]? = some (.agg #[.int .i64 0, .int .i64 0, .int .i64 0]) := hk.val 2 25 (by kernel_rfl) (by kernel_rfl) rfl
      have q2 := EF.out
      have hK := hK _ X hS (Reg.Is.of_val rfl) (fun _ _ _ h => h)
      clear hk
      go_simp
      exact hK
    refine Reg.EachV.plain rfl (fun T X hS hk K hK => ?_) ?_
    · skip
      have g26 : T[26]? = some (.bool false) := hk.val 3 26 (by kernel_rfl) (by kernel_rfl) rfl
      have hK := hK _ X hS (Reg.Is.of_val rfl) (fun _ _ _ h => h)
      clear hk
      go_simp
      exact hK
    refine Reg.EachV.guarded 4 27 false rfl (by kernel_rfl) (by kernel_rfl) rfl (fun T X hS hk K hK => ?_) ?_
    · skip
      have g1 : T[1]? = some (.string s) := hk.old 1 (by kernel_rfl) rfl
      have hK := hK _ X hS (Reg.Is.of_val rfl) (fun _ _ _ h => h)
      clear hk
      go_simp
      exact hK
    refine Reg.EachV.guarded 4 27 false rfl (by kernel_rfl) (by kernel_rfl) rfl (fun T X hS hk K hK => ?_) ?_
    · skip
      have g28 : T[28]? = some (.string s) := hk.val 5 28 (by kernel_rfl) (by kernel_rfl) rfl
      clear hk
      go_simp
      refine (HQ.out X).mono ?_
      rintro e w1 ⟨rfl, hb⟩
      exact hK _ _ (hS.nxt hb) (Reg.Is.of_val rfl) (fun _ _ _ h => h)
    refine Reg.EachV.guarded 4 27 false rfl (by kernel_rfl) (by kernel_rfl) rfl (fun T X hS hk K hK => ?_) ?_
    · skip
      have g1 : T[1]? = some (.string s) := hk.old 1 (by kernel_rfl) rfl
      have hK := hK _ X hS (Reg.Is.of_val rfl) (fun _ _ _ h => h)
      clear hk
      go_simp
      exact hK
    refine Reg.EachV.guarded 4 27 false rfl (by kernel_rfl) (by kernel_rfl) rfl (fun T X hS hk K hK => ?_) ?_
    · skip
      have g30 : T[30]? = some (.string s) := hk.val 7 30 (by kernel_rfl) (by kernel_rfl) rfl
      clear hk
      go_simp
      refine (HRQ.out X).mono ?_
      rintro e w1 ⟨rfl, hb⟩
      exact hK _ _ (hS.nxt hb) (Reg.Is.of_val rfl) (fun _ _ _ h => h)
    refine Reg.EachV.guarded 4 27 false rfl (by kernel_rfl) (by kernel_rfl) rfl (fun T X hS hk K hK => ?_) ?_
    · skip
      have g29 : T[29]? = some (.string qs) := hk.val 6 29 (by kernel_rfl) (by kernel_rfl) rfl
      have g31 : T[31]? = some (.string qs) := hk.val 8 31 (by kernel_rfl) (by kernel_rfl) rfl
      have hK := hK _ X hS (Reg.Is.of_val rfl) (fun _ _ _ h => h)
      clear hk
      go_simp
      exact hK
    refine Reg.EachV.plain rfl (fun T X hS hk K hK => ?_) ?_
    · skip
      have g27 : T[27]? = some (.bool false) := hk.val 4 27 (by kernel_rfl) (by kernel_rfl) rfl
      have g32 : T[32]? = some (.bool false) := hk.val 9 32 (by kernel_rfl) (by kernel_rfl) rfl
      have hK := hK _ X hS (Reg.Is.of_val rfl) (fun _ _ _ h => h)
      clear hk
      go_simp
      exact hK
    exact Reg.EachV.nil
  case rsZ =>
    intro u w4 hS hI
    have e0 : u 0 = .nilIface := (hI 0 (by decide)).val rfl
    have e1 : u 1 = .agg #[.int .i64 0, .int .i64 0, .int .i64 0] := (hI 1 (by decide)).val rfl
    have e2 : u 2 = .agg #[.int .i64 0, .int .i64 0, .int .i64 0] := (hI 2 (by decide)).val rfl
    have e3 : u 3 = .bool false := (hI 3 (by decide)).val rfl
    have e4 : u 4 = .bool false := (hI 4 (by decide)).val rfl
    have e5 : u 5 = .string s := (hI 5 (by decide)).val rfl
    have e6 : u 6 = .string qs := (hI 6 (by decide)).val rfl
    have e7 : u 7 = .string s := (hI 7 (by decide)).val rfl
    have e8 : u 8 = .string qs := (hI 8 (by decide)).val rfl
    have e9 : u 9 = .bool false := (hI 9 (by decide)).val rfl
    have e10 : u 10 = .bool false := (hI 10 (by decide)).val rfl
    clear hI
    simp only [Reg.putAll, Act.put, List.setIfInBounds_toArray, List.set_cons_succ, List.set_cons_zero, Nat.zero_add, Nat.reduceAdd, e0, e1, e2, e3, e4, e5, e6, e7, e8, e9, e10]
    clear e0 e1 e2 e3 e4 e5 e6 e7 e8 e9 e10
    have HI4 := Lib.hid hS
    clear hS
    have y80 : w4.cell? ⟨w2.heap.size, 0, none⟩ = some (.int .i64 0) := by rw [Lib.cell_of_heap HI4.out.f]; rfl
    have y81 : w4.cell? ⟨w2.heap.size, 1, none⟩ = some (.int .i64 0) := by rw [Lib.cell_of_heap HI4.out.f]; rfl
    have y82 : w4.cell? ⟨w2.heap.size, 2, none⟩ = some (.int .i64 0) := by rw [Lib.cell_of_heap HI4.out.f]; rfl
    have yz := lt_blkB HI4.out.f
    have HPC4 := Lib.hid (HPL.out _ _ _ HI4.out.pat)
    go_wp2_with fail
    refine HPC4.out.mono ?_
    rintro x w5 ⟨rfl, hb5⟩
    have HI5 := Lib.hid (HI4.out.nxt hb5)
    have HS5 := Lib.hid (HRL.out _ _ w5 HI5.out.row)
    clear hb5 y80 y81 y82 yz
    go_wp2_with fail
    refine HS5.out.mono ?_
    rintro x w6 ⟨rfl, hb6⟩
    have HI6 := Lib.hid (HI5.out.nxt hb6)
    clear hb6
    go_wp2_with fail
    refine (HA.out _ HI6.out.bel).mono ?_
    rintro x w9 ⟨rfl, hb9⟩
    have HZ := Lib.hid (below_thn HI6.out.bel (Nat.le_refl _) hb9)
    clear hb9
    go_wp2
    go_ret
    exact ⟨rfl, HZ.out⟩

set_option maxRecDepth 100000 in
set_option maxHeartbeats 16000000 in
theorem gpl_long (w : World) (v0 : Value) (s qs : ByteArray) (Φ : Value → World → Prop)
    (HP : Hid (Calls Tryz.prog 5 #[v0] w fun x w' => ∃ v, x = .returned (.tuple #[.pointer none, v]) ∧ Φ v w' ∧ Below w.heap.size w w'))
    (HRP : Hid (∀ X, Calls Tryz.prog 6 #[v0] X fun e w' => e = .returned (.tuple #[.slice none 0 0, .agg #[.int .i64 2, .int .i64 0, .int .i64 2]]) ∧ Below X.heap.size X w'))
    (HQ : Hid (∀ X, Calls Tryz.prog 13 #[.string s] X fun x w' => x = .returned (.string qs) ∧ Below X.heap.size X w'))
    (HRQ : Hid (∀ X, Calls Tryz.prog 14 #[.string s] X fun x w' => x = .returned (.string qs) ∧ Below X.heap.size X w'))
    (HT : Hid (∀ v w1 X, Φ v w1 → Below w.heap.size w w1 → Below w1.heap.size w1 X → Calls Tryz.prog 7 #[v] X fun x w' => x = .returned (.agg #[.int .i64 2, .int .i64 0, .int .i64 2]) ∧ Below X.heap.size X w'))
    (HA : Hid (∀ X, Below w.heap.size w X → Calls Tryz.prog 8 #[] X fun x w' => x = .returned (.bool true) ∧ Below X.heap.size X w')) :
    Calls Tryz.prog 4 #[v0, .string s] w fun x w' => x = .returned (.bool true) ∧ Below w.heap.size w w' := by
  have EF := Lib.hid (eq_fault 2 0 2)
  go_enter Tryz.func4, Tryz.ntmps4
  go_wp2_with fail
  refine HP.out.mono ?_
  rintro x w1 ⟨v, rfl, hΦ, hb1⟩
  have HB1 := Lib.hid hb1
  have HTT := Lib.hid (fun X hX => HT.out v w1 X hΦ hb1 hX)
  clear hb1 hΦ
  go_wp2_with fail
  refine (HRP.out _).mono ?_
  rintro x w2 ⟨rfl, hb2⟩
  have HI3 : Hid (GqI w w1 w2.heap.size (w2.alloc (.cells #[.int .i64 2, .int .i64 0, .int .i64 2] 30))) := Lib.hid ⟨(below_thn HB1.out (Nat.le_refl _) hb2).alloc (below_thn HB1.out (Nat.le_refl _) hb2).size _, hb2.alloc hb2.size _, alloc_last w2 _⟩
  clear hb2
  go_wp2_with fail
  obtain ⟨w3, hV⟩ : ∃ V, V = (w2.alloc (.cells #[.int .i64 2, .int .i64 0, .int .i64 2] 30)) := ⟨_, rfl⟩
  rw [← hV] at HI3 ⊢
  clear hV
  refine Reg.wp_region_vals (fun X => GqI w w1 w2.heap.size X) (fun j => ([some (v), some (.agg #[.int .i64 2, .int .i64 0, .int .i64 2]), some (.agg #[.int .i64 2, .int .i64 0, .int .i64 2]), some (.bool false), some (.bool false), some (.string s), some (.string qs), some (.string s), some (.string qs), some (.bool false), some (.bool false)] : List (Option Value)).getD j none) (fun _ _ _ => True) (by kernel_rfl) (by kernel_rfl) (by kernel_rfl) (by kernel_rfl) ?rs0 ?rsE ?rsZ
  case rs0 => exact HI3.out.nxt (Below.refl _ _).drew
  case rsE =>
    refine Reg.EachV.plain rfl (fun T X hS hk K hK => ?_) ?_
    · skip
      have g6 : T[6]? = some (v) := hk.old 6 (by kernel_rfl) rfl
      have hK := hK _ X hS (Reg.Is.of_val rfl) (fun _ _ _ h => h)
      clear hk
      go_simp
      exact hK
    refine Reg.EachV.plain rfl (fun T X hS hk K hK => ?_) ?_
    · skip
      have g23 : T[23]? = some (v) := hk.val 0 23 (by kernel_rfl) (by kernel_rfl) rfl
      clear hk
      go_simp
      refine (HTT.out X hS.bel1).mono ?_
      rintro e w1 ⟨rfl, hb⟩
      exact hK _ _ (hS.nxt hb) (Reg.Is.of_val rfl) (fun _ _ _ h => h)
    refine Reg.EachV.plain rfl (fun T X hS hk K hK => ?_) ?_
    · skip
      have g8 : T[8]? = some (.pointer (some ⟨w2.heap.size, 0, none⟩)) := hk.old 8 (by kernel_rfl) rfl
      have y80 : X.cell? ⟨w2.heap.size, 0, none⟩ = some (.int .i64 2) := by rw [Lib.cell_of_heap hS.f]; rfl
      have y81 : X.cell? ⟨w2.heap.size, 1, none⟩ = some (.int .i64 0) := by rw [Lib.cell_of_heap hS.f]; rfl
      have y82 : X.cell? ⟨w2.heap.size, 2, none⟩ = some (.int .i64 2) := by rw [Lib.cell_of_heap hS.f]; rfl
      have yz := lt_blkB hS.f
      have hK := hK _ X hS (Reg.Is.of_val rfl) (fun _ _ _ h => h)
      clear hk
      go_simp
      exact hK
    refine Reg.EachV.plain rfl (fun T X hS hk K hK => ?_) ?_
    · skip
      have g24 : T[24]? = some (.agg #[.int .i64 2, .int .i64 0, .int .i64 2]) := hk.val 1 24 (by kernel_rfl) (by kernel_rfl) rfl
      have g25 : T[25]? = some (.agg #[.int .i64 2, .int .i64 0, .int .i64 2]) := hk.val 2 25 (by kernel_rfl) (by kernel_rfl) rfl
      have q2 := EF.out
      have hK := hK _ X hS (Reg.Is.of_val rfl) (fun _ _ _ h => h)
      clear hk
      go_simp
      exact hK
    refine Reg.EachV.plain rfl (fun T X hS hk K hK => ?_) ?_
    · skip
      have g26 : T[26]? = some (.bool false) := hk.val 3 26 (by kernel_rfl) (by kernel_rfl) rfl
      have hK := hK _ X hS (Reg.Is.of_val rfl) (fun _ _ _ h => h)
      clear hk
      go_simp
      exact hK
    refine Reg.EachV.guarded 4 27 false rfl (by kernel_rfl) (by kernel_rfl) rfl (fun T X hS hk K hK => ?_) ?_
    · skip
      have g1 : T[1]? = some (.string s) := hk.old 1 (by kernel_rfl) rfl
      have hK := hK _ X hS (Reg.Is.of_val rfl) (fun _ _ _ h => h)
      clear hk
      go_simp
      exact hK
    refine Reg.EachV.guarded 4 27 false rfl (by kernel_rfl) (by kernel_rfl) rfl (fun T X hS hk K hK => ?_) ?_
    · skip
      have g28 : T[28]? = some (.string s) := hk.val 5 28 (by kernel_rfl) (by kernel_rfl) rfl
      clear hk
      go_simp
      refine (HQ.out X).mono ?_
      rintro e w1 ⟨rfl, hb⟩
      exact hK _ _ (hS.nxt hb) (Reg.Is.of_val rfl) (fun _ _ _ h => h)
    refine Reg.EachV.guarded 4 27 false rfl (by kernel_rfl) (by kernel_rfl) rfl (fun T X hS hk K hK => ?_) ?_
    · skip
      have g1 : T[1]? = some (.string s) := hk.old 1 (by kernel_rfl) rfl
      have hK := hK _ X hS (Reg.Is.of_val rfl) (fun _ _ _ h => h)
      clear hk
      go_simp
      exact hK
    refine Reg.EachV.guarded 4 27 false rfl (by kernel_rfl) (by kernel_rfl) rfl (fun T X hS hk K hK => ?_) ?_
    · skip
      have g30 : T[30]? = some (.string s) := hk.val 7 30 (by kernel_rfl) (by kernel_rfl) rfl
      clear hk
      go_simp
      refine (HRQ.out X).mono ?_
      rintro e w1 ⟨rfl, hb⟩
      exact hK _ _ (hS.nxt hb) (Reg.Is.of_val rfl) (fun _ _ _ h => h)
    refine Reg.EachV.guarded 4 27 false rfl (by kernel_rfl) (by kernel_rfl) rfl (fun T X hS hk K hK => ?_) ?_
    · skip
      have g29 : T[29]? = some (.string qs) := hk.val 6 29 (by kernel_rfl) (by kernel_rfl) rfl
      have g31 : T[31]? = some (.string qs) := hk.val 8 31 (by kernel_rfl) (by kernel_rfl) rfl
      have hK := hK _ X hS (Reg.Is.of_val rfl) (fun _ _ _ h => h)
      clear hk
      go_simp
      exact hK
    refine Reg.EachV.plain rfl (fun T X hS hk K hK => ?_) ?_
    · skip
      have g27 : T[27]? = some (.bool false) := hk.val 4 27 (by kernel_rfl) (by kernel_rfl) rfl
      have g32 : T[32]? = some (.bool false) := hk.val 9 32 (by kernel_rfl) (by kernel_rfl) rfl
      have hK := hK _ X hS (Reg.Is.of_val rfl) (fun _ _ _ h => h)
      clear hk
      go_simp
      exact hK
    exact Reg.EachV.nil
  case rsZ =>
    intro u w4 hS hI
    have e0 : u 0 = v := (hI 0 (by decide)).val rfl
    have e1 : u 1 = .agg #[.int .i64 2, .int .i64 0, .int .i64 2] := (hI 1 (by decide)).val rfl
    have e2 : u 2 = .agg #[.int .i64 2, .int .i64 0, .int .i64 2] := (hI 2 (by decide)).val rfl
    have e3 : u 3 = .bool false := (hI 3 (by decide)).val rfl
    have e4 : u 4 = .bool false := (hI 4 (by decide)).val rfl
    have e5 : u 5 = .string s := (hI 5 (by decide)).val rfl
    have e6 : u 6 = .string qs := (hI 6 (by decide)).val rfl
    have e7 : u 7 = .string s := (hI 7 (by decide)).val rfl
    have e8 : u 8 = .string qs := (hI 8 (by decide)).val rfl
    have e9 : u 9 = .bool false := (hI 9 (by decide)).val rfl
    have e10 : u 10 = .bool false := (hI 10 (by decide)).val rfl
    clear hI
    simp only [Reg.putAll, Act.put, List.setIfInBounds_toArray, List.set_cons_succ, List.set_cons_zero, Nat.zero_add, Nat.reduceAdd, e0, e1, e2, e3, e4, e5, e6, e7, e8, e9, e10]
    clear e0 e1 e2 e3 e4 e5 e6 e7 e8 e9 e10
    have HI4 := Lib.hid hS
    clear hS
    have y80 : w4.cell? ⟨w2.heap.size, 0, none⟩ = some (.int .i64 2) := by rw [Lib.cell_of_heap HI4.out.f]; rfl
    have y81 : w4.cell? ⟨w2.heap.size, 1, none⟩ = some (.int .i64 0) := by rw [Lib.cell_of_heap HI4.out.f]; rfl
    have y82 : w4.cell? ⟨w2.heap.size, 2, none⟩ = some (.int .i64 2) := by rw [Lib.cell_of_heap HI4.out.f]; rfl
    have yz := lt_blkB HI4.out.f
    go_wp2_with fail
    refine (HA.out _ HI4.out.bel).mono ?_
    rintro x w9 ⟨rfl, hb9⟩
    have HZ := Lib.hid (below_thn HI4.out.bel (Nat.le_refl _) hb9)
    clear hb9
    go_wp2
    go_ret
    exact ⟨rfl, HZ.out⟩

theorem gpl_any (cf : ByteArray → (Nat → Bool) × Bool) (hcf : ClassOk cf) (hrf : ClassRf cf) (e : Nat → Addr) (w : World) (v0 : Value) (l : List Int) (s : ByteArray) (hsz : s.size ≤ 1048576) (hs : Sl w v0 l) (hsn : Snt w e) (hT : TZ w) (hD : DB w) :
    Calls Tryz.prog 4 #[v0, .string s] w fun x w' => x = .returned (.bool true) ∧ Below w.heap.size w w' := by
  have hes : Es w w.heap.size e := ⟨hsn.var, by have := hsn.low; omega, Nat.le_refl _⟩
  have HA : Hid (∀ X, Below w.heap.size w X → Calls Tryz.prog 8 #[] X fun x w' => x = .returned (.bool true) ∧ Below X.heap.size X w') := Lib.hid fun X hX => awake6_any cf hcf e X ⟨(hes.below hX).var, Nat.lt_of_lt_of_le hes.low hX.size, Nat.le_refl _⟩ (hT.below hX) (hD.below hX)
  by_cases hp : l.length ≤ 256
  · have hpl : (glP cf l).length ≤ 256 := Nat.le_trans (glP_len cf l) hp
    exact gpl_walk w v0 (glP cf l) s _ _ _ (Lib.hid (parse_ok cf hcf e v0 l w hes hT hs hp)) (Lib.hid fun X hX => rpat_any cf hrf v0 l X (hs.below hX) hp)
      (Lib.hid fun X => quote_any s X hsz) (Lib.hid fun X => rquote_any s X hsz)
      (Lib.hid fun B b X h => plain_any B b (glP cf l) X h (by omega)) (Lib.hid fun B r X h => rplain_any (glP cf l) r B X h hpl) HA
  · obtain ⟨a0, c0, rfl⟩ : ∃ a0 c0, v0 = .slice a0 l.length c0 := by
      rcases hs.2.2 with ⟨rfl, ad, cap, rfl⟩ | ⟨x, o, cap, rfl, _⟩
      · exact ⟨ad, cap, rfl⟩
      · exact ⟨_, cap, rfl⟩
    refine gpl_long w _ s _ (fun v w' => ErrS w' w.heap.size e 2 2 0 v) (Lib.hid (parse_long e a0 l.length c0 (by omega) w hes)) (Lib.hid fun X => rpat_long a0 l.length c0 (by omega) X) (Lib.hid fun X => quote_any s X hsz) (Lib.hid fun X => rquote_any s X hsz) (Lib.hid fun v w1 X her hb1 hX => ?_) HA
    have her' : ErrS X w.heap.size e 2 2 0 v := her.kept hX.size fun j _ hj => hX.block j hj
    have hX2 := below_thn hb1 (Nat.le_refl _) hX
    have := tell_any [(true, 2), (false, 0)] v (e 2) e 2 X (hsn.below hX2) ((hsn.below hX2).rt 2 (by decide) (by decide)) her'.chn
    simpa [firstOf] using this

set_option maxRecDepth 100000 in
theorem globPlain_open {H : Type} {enc : TypeId × Value → H} {d0 d1 : DataW H} {p0 p1 : List MemPlace} {q : Prop} (W : World) (base : Nat) (v0 v1 : Value)
    (h0 : DataW.Trod enc Tryz.prog W 0 (fun _ => true) true 22 v0 d0 p0) (h1 : DataW.Trod enc Tryz.prog W 0 (fun _ => true) true 9 v1 d1 p1)
    (k0 : Value.okWide Tryz.prog W .any base 22 v0) (k1 : Value.okWide Tryz.prog W .any base 9 v1) (_ : q)
    (hk : Rows.uptoSmall H [d0, d1] = true) (hL : laidMetH Tryz.prog Rows.globPlainUptoRow.laid W) :
    Calls Tryz.prog 4 #[v0, v1] W fun e W' => e = .returned (.bool true) ∧ Below W.heap.size W W' := by
  obtain ⟨_, _, hT, hD⟩ := gl_of_laid (by kernel_rfl) (by kernel_rfl) hL
  obtain ⟨e, hsn⟩ := snt_of_laid3 (by kernel_rfl) (by kernel_rfl) hL
  obtain ⟨cf, hcf, hrf⟩ := classes_ok2
  obtain ⟨l0, hs0, _⟩ := sl_of_w k0 h0
  obtain ⟨s, rfl, rfl, _, _⟩ := Go.ChangeMaps.open_string Tryz.underlying9 k1 h1
  have hb : Rows.uptoBulkAll [d0, DataW.lit (H := H) (.string s.data.toList)] ≤ 1048576 := of_decide_eq_true hk
  simp only [Rows.uptoBulkAll, Rows.uptoBulk] at hb
  have hss : s.data.toList.length = s.size := by simp
  exact gpl_any cf hcf hrf e W v0 l0 s (by omega) hs0 hsn hT hD
end Go.Proofs.YtopnckfmdjhbjaaGreatDoor
