/- branch: what is asked, then the one or the other (gen_acbr.py). -/
import Derived.Test.YthpmkpnndbjflaaGreatDoorKPp
namespace Go.Proofs.YthpmkpnndbjflaaGreatDoor
open Go.RowKit

/-- The state within a region that sets where an instruction goes to. -/
structure BrS (B cb x0 : Nat) (w W : World) (pc : Array Value) (l0 l1 : List Ins) (sv : Value) (d : Bool) (X : World) : Prop where
  pt : PtS B cb x0 x0 w W pc 60 pc (if d = true then l1 else l0) X
  pat : d = false → X.heap[cb]? = some (.cells #[sv] 147 (0, 0))
theorem set_mid {α : Type} (x : List α) (u v : α) (y : List α) : (x ++ u :: y).set x.length v = x ++ v :: y := by
  rw [List.set_append_right _ _ (Nat.le_refl _), Nat.sub_self]
  rfl
theorem at_mid {α : Type} (x : List α) (u : α) (y : List α) : (x ++ u :: y)[x.length]? = some u := by
  rw [List.getElem?_append_right (Nat.le_refl _), Nat.sub_self]
  rfl

theorem br5 (l1 Y : List Ins) (k : Nat) : (((l1 ++ [iIf 0]) ++ Y) ++ [iJump 0]).set l1.length ((iIf 0).goes k) = (l1 ++ (iIf k :: Y)) ++ [iJump 0] := by
  rw [show ((l1 ++ [iIf 0]) ++ Y) ++ [iJump 0] = l1 ++ iIf 0 :: (Y ++ [iJump 0]) by simp, set_mid]
  simp [Ins.goes, iIf]
theorem br7 (x N : List Ins) (k : Nat) : ((x ++ [iJump 0]) ++ N).set x.length ((iJump 0).goes k) = x ++ (iJump k :: N) := by
  rw [show (x ++ [iJump 0]) ++ N = x ++ iJump 0 :: N by simp, set_mid]
  rfl

set_option maxRecDepth 100000 in
set_option maxHeartbeats 8000000 in
/-- What is asked, by its code A; the one closure lays Y, the other one N. -/
theorem branch_any (B cb : Nat) (l A Y N : List Ins) (fy fn : Nat) (cy cn : Array Value) (t : Tr) (kv : Value) (w : World) (h : CoAt B cb l w) (hBw : B ≤ w.heap.size) (hkv : ∃ o m c, kv = .slice o m c)
    (hey : ∀ X, (callFunc fy cy).run Tryz.prog X = .ok (.enter fy cy) X) (hen : ∀ X, (callFunc fn cn).run Tryz.prog X = .ok (.enter fn cn) X)
    (hlen : l.length + A.length + Y.length + N.length + 2 ≤ 1000001)
    (ha : ∀ X, CoAt B cb l X → ChC B w X → Calls Tryz.prog 88 #[.pointer (some ⟨cb, 0, none⟩), t.v kv] X fun x w' => x = .returned (.tuple #[]) ∧ CoAt B cb (l ++ A) w' ∧ ChC B X w')
    (hy : ∀ X i, CoAt B cb ((l ++ A) ++ [i]) X → ChC B w X → Calls Tryz.prog fy cy X fun x w' => x = .returned (.tuple #[]) ∧ CoAt B cb (((l ++ A) ++ [i]) ++ Y) w' ∧ ChC B X w')
    (hn : ∀ X m, m.length = l.length + A.length + Y.length + 2 → CoAt B cb m X → ChC B w X → Calls Tryz.prog fn cn X fun x w' => x = .returned (.tuple #[]) ∧ CoAt B cb (m ++ N) w' ∧ ChC B X w') :
    Calls Tryz.prog 121 #[.pointer (some ⟨cb, 0, none⟩), t.v kv, .func (.func fy) #[] cy, .func (.func fn) #[] cn] w fun x w' => x = .returned (.tuple #[]) ∧ CoAt B cb (l ++ (A ++ (iIf (l.length + A.length + 1 + Y.length + 1) :: (Y ++ (iJump (l.length + A.length + 1 + Y.length + 1 + N.length) :: N))))) w' ∧ ChC B w w' := by
  obtain ⟨ko, km, kc, rfl⟩ := hkv
  obtain ⟨l1, hl1⟩ : ∃ l1, l1 = l ++ A := ⟨_, rfl⟩
  have n1 : l1.length = l.length + A.length := by rw [hl1, List.length_append]
  obtain ⟨l3, hl3⟩ : ∃ l3, l3 = (l1 ++ [iIf 0]) ++ Y := ⟨_, rfl⟩
  have n3 : l3.length = l1.length + 1 + Y.length := by rw [hl3, List.length_append, List.length_append]; rfl
  obtain ⟨l4, hl4⟩ : ∃ l4, l4 = l3 ++ [iJump 0] := ⟨_, rfl⟩
  have n4 : l4.length = l3.length + 1 := by rw [hl4, List.length_append]; rfl
  have h4i : l4[l1.length]? = some (iIf 0) := by rw [hl4, hl3]; simp only [List.append_assoc, List.singleton_append]; exact at_mid _ _ _
  obtain ⟨l5, hl5⟩ : ∃ l5, l5 = l4.set l1.length ((iIf 0).goes l4.length) := ⟨_, rfl⟩
  have n5 : l5.length = l4.length := by rw [hl5, List.length_set]
  have e5 : l5 = (l1 ++ (iIf l4.length :: Y)) ++ [iJump 0] := by rw [hl5, hl4, hl3]; exact br5 _ _ _
  obtain ⟨l6, hl6⟩ : ∃ l6, l6 = l5 ++ N := ⟨_, rfl⟩
  have n6 : l6.length = l5.length + N.length := by rw [hl6, List.length_append]
  have h6i : l6[l3.length]? = some (iJump 0) := by
    rw [hl6, e5, List.append_assoc, show l3.length = (l1 ++ (iIf l4.length :: Y)).length by simp [n3]; omega]
    exact at_mid _ _ _
  obtain ⟨l7, hl7⟩ : ∃ l7, l7 = l6.set l3.length ((iJump 0).goes l6.length) := ⟨_, rfl⟩
  have e7 : l7 = (l1 ++ (iIf l4.length :: Y)) ++ (iJump l6.length :: N) := by
    rw [hl7, hl6, e5, show l3.length = (l1 ++ (iIf l4.length :: Y)).length by simp [n3]; omega]
    exact br7 _ _ _
  have HL7 : Hid (l7 = l ++ (A ++ (iIf (l.length + A.length + 1 + Y.length + 1) :: (Y ++ (iJump (l.length + A.length + 1 + Y.length + 1 + N.length) :: N))))) := Lib.hid (by
    rw [e7, hl1, show l4.length = l.length + A.length + 1 + Y.length + 1 by omega, show l6.length = l.length + A.length + 1 + Y.length + 1 + N.length by omega]
    simp)
  rw [← HL7.out]
  obtain ⟨pc, hpc⟩ : ∃ pc : Array Value, pc = #[.string t.op, .int .i64 t.val, .string t.nm, .int .i64 t.pos, .int .i64 t.apos, .slice ko km kc] := ⟨_, rfl⟩
  obtain ⟨W, hW⟩ : ∃ W, W = w.alloc (.cells pc 60) := ⟨_, rfl⟩
  have HS0 : Hid (PtS B cb w.heap.size w.heap.size w W pc 60 pc l W) := Lib.hid (by rw [hW]; exact box1_pts h hBw pc)
  have HWE : Hid (W = w.alloc (.cells #[.string t.op, .int .i64 t.val, .string t.nm, .int .i64 t.pos, .int .i64 t.apos, .slice ko km kc] 60)) := Lib.hid (by rw [hW, hpc])
  have HPC := Lib.hid hpc
  have HA := Lib.hid ha
  have HPU1 : Hid (∀ X, CoAt B cb l1 X → B ≤ X.heap.size → Calls Tryz.prog 119 #[.pointer (some ⟨cb, 0, none⟩), .agg (iIf 0 : Ins).cells.toArray] X fun x w' => x = .returned (.int .i64 (l1.length : Nat)) ∧ CoAt B cb (l1 ++ [iIf 0]) w' ∧ ChC B X w') := Lib.hid (fun X hX hB => cput_any B cb _ _ X hX hB (by omega))
  have HPU2 : Hid (∀ X, CoAt B cb l3 X → B ≤ X.heap.size → Calls Tryz.prog 119 #[.pointer (some ⟨cb, 0, none⟩), .agg (iJump 0 : Ins).cells.toArray] X fun x w' => x = .returned (.int .i64 (l3.length : Nat)) ∧ CoAt B cb l4 w' ∧ ChC B X w') := Lib.hid (fun X hX hB => by rw [hl4]; exact cput_any B cb _ _ X hX hB (by omega))
  have HY : Hid (∀ X, CoAt B cb (l1 ++ [iIf 0]) X → ChC B w X → Calls Tryz.prog fy cy X fun x w' => x = .returned (.tuple #[]) ∧ CoAt B cb l3 w' ∧ ChC B X w') := Lib.hid (fun X hX hC => by rw [hl1] at hX; have := hy X _ hX hC; rwa [← hl1, ← hl3] at this)
  have HN : Hid (∀ X, CoAt B cb l5 X → ChC B w X → Calls Tryz.prog fn cn X fun x w' => x = .returned (.tuple #[]) ∧ CoAt B cb l6 w' ∧ ChC B X w') := Lib.hid (fun X hX hC => by rw [hl6]; exact hn X l5 (by omega) hX hC)
  rw [← hl1] at HA
  have H4I := Lib.hid h4i
  have H6I := Lib.hid h6i
  have HL5 := Lib.hid hl5
  have HL7E := Lib.hid hl7
  have hk1 : (l1.length : Int) < (l4.length : Int) := by omega
  have hk2 : (l3.length : Int) < (l6.length : Int) := by omega
  clear h hy hn ha hpc hW hl1 n1 hl3 n3 hl4 n4 h4i hl5 n5 e5 hl6 n6 h6i hl7 e7 hlen HL7
  have hb1 := HS0.out.b1
  rw [HPC.out] at hb1
  obtain ⟨c0, c1, c2, c3, c4, c5, hz1⟩ := cells6A hb1
  clear hb1
  unfold Tr.v at HA ⊢
  go_enter Tryz.func121, Tryz.ntmps121
  go_upto_region 1 with fail
  rw [← HWE.out]
  go_wp2_with fail
  refine (HA.out _ HS0.out.co HS0.out.ch).mono ?_
  rintro x w1 ⟨rfl, hg1, hc1⟩
  have HS1 := Lib.hid (HS0.out.step hg1 hc1 (by decide) (by decide))
  clear hg1 hc1 c0 c1 c2 c3 c4 c5 hz1
  go_wp2_with fail
  refine (HPU1.out _ HS1.out.co (Nat.le_trans hBw HS1.out.ch.bel.size)).mono ?_
  rintro x w2 ⟨rfl, hg1, hc1⟩
  have HS2 := Lib.hid (HS1.out.step hg1 hc1 (by decide) (by decide))
  clear hg1 hc1
  go_wp2_with fail
  refine (HY.out _ HS2.out.co HS2.out.ch).mono ?_
  rintro x w3 ⟨rfl, hg1, hc1⟩
  have HS3 := Lib.hid (HS2.out.step hg1 hc1 (by decide) (by decide))
  clear hg1 hc1
  go_wp2_with fail
  refine (HPU2.out _ HS3.out.co (Nat.le_trans hBw HS3.out.ch.bel.size)).mono ?_
  rintro x w4 ⟨rfl, hg1, hc1⟩
  have HS4 := Lib.hid (HS3.out.step hg1 hc1 (by decide) (by decide))
  clear hg1 hc1
  go_wp2_with fail
  obtain ⟨g4, cap4, u4, hp4, hnc4, _⟩ := HS4.out.co.goes H4I.out 0
  have HP4 := Lib.hid hp4
  clear hp4
  refine Reg.wp_region_sto (fun L u X => BrS B cb w.heap.size w W pc l4 l5 (.slice (some ⟨g4, 0, none⟩) l4.length cap4) (L 12) X) (fun j => ([some (.pointer (some ⟨cb, 0, none⟩)), some (.pointer (some ⟨cb, 0, none⟩)), some (.pointer (some ⟨cb, 0, none⟩)), some (.slice (some ⟨g4, 0, none⟩) l4.length cap4), some (.int .i64 (l1.length : Nat)), some (.pointer (some ⟨cb, 0, none⟩)), some (.pointer (some ⟨cb, 0, none⟩)), some (.pointer (some ⟨cb, 0, none⟩)), some (.slice (some ⟨g4, 0, none⟩) l4.length cap4), some (.int .i64 (l4.length : Nat)), some (.pointer (some ⟨g4, l1.length * 6, none⟩)), some (.pointer (some ⟨g4, l1.length * 6 + 5, none⟩)), none] : List (Option Value)).getD j none) (by kernel_rfl) (by kernel_rfl) (by kernel_rfl) (by kernel_rfl) ?rs0 ?rsE ?rsZ
  case rs0 => exact ⟨HS4.out.drew hBw, fun _ => HP4.out⟩
  case rsE =>
    refine Reg.EachG.plain rfl (fun L u T X hL hz hS hk K hK => ?_) ?_
    · skip
      have g0 : T[0]? = some (.pointer (some ⟨cb, 0, none⟩)) := hk.old 0 (by kernel_rfl) rfl
      have hK := hK _ X hS (fun _ hx => Option.some.inj hx)
      clear hk hz hL
      go_simp
      exact hK
    refine Reg.EachG.plain rfl (fun L u T X hL hz hS hk K hK => ?_) ?_
    · skip
      have g21 : T[21]? = some (.pointer (some ⟨cb, 0, none⟩)) := hk.val 0 21 (by kernel_rfl) (by kernel_rfl) rfl
      have hK := hK _ X hS (fun _ hx => Option.some.inj hx)
      clear hk hz hL
      go_simp
      exact hK
    refine Reg.EachG.plain rfl (fun L u T X hL hz hS hk K hK => ?_) ?_
    · skip
      have g22 : T[22]? = some (.pointer (some ⟨cb, 0, none⟩)) := hk.val 1 22 (by kernel_rfl) (by kernel_rfl) rfl
      have hK := hK _ X hS (fun _ hx => Option.some.inj hx)
      clear hk hz hL
      go_simp
      exact hK
    refine Reg.EachG.plain rfl (fun L u T X hL hz hS hk K hK => ?_) ?_
    · skip
      have g23 : T[23]? = some (.pointer (some ⟨cb, 0, none⟩)) := hk.val 2 23 (by kernel_rfl) (by kernel_rfl) rfl
      have hd : L 12 = false := hz 12 (by kernel_rfl)
      obtain ⟨c0, _, hbz⟩ := cells1A (hS.pat hd)
      have hK := hK _ X hS (fun _ hx => Option.some.inj hx)
      clear hk hz hL
      go_simp
      exact hK
    refine Reg.EachG.plain rfl (fun L u T X hL hz hS hk K hK => ?_) ?_
    · skip
      have g8 : T[8]? = some (.int .i64 (l1.length : Nat)) := hk.old 8 (by kernel_rfl) rfl
      have hK := hK _ X hS (fun _ hx => Option.some.inj hx)
      clear hk hz hL
      go_simp
      exact hK
    refine Reg.EachG.plain rfl (fun L u T X hL hz hS hk K hK => ?_) ?_
    · skip
      have g0 : T[0]? = some (.pointer (some ⟨cb, 0, none⟩)) := hk.old 0 (by kernel_rfl) rfl
      have hK := hK _ X hS (fun _ hx => Option.some.inj hx)
      clear hk hz hL
      go_simp
      exact hK
    refine Reg.EachG.plain rfl (fun L u T X hL hz hS hk K hK => ?_) ?_
    · skip
      have g26 : T[26]? = some (.pointer (some ⟨cb, 0, none⟩)) := hk.val 5 26 (by kernel_rfl) (by kernel_rfl) rfl
      have hK := hK _ X hS (fun _ hx => Option.some.inj hx)
      clear hk hz hL
      go_simp
      exact hK
    refine Reg.EachG.plain rfl (fun L u T X hL hz hS hk K hK => ?_) ?_
    · skip
      have g27 : T[27]? = some (.pointer (some ⟨cb, 0, none⟩)) := hk.val 6 27 (by kernel_rfl) (by kernel_rfl) rfl
      have hK := hK _ X hS (fun _ hx => Option.some.inj hx)
      clear hk hz hL
      go_simp
      exact hK
    refine Reg.EachG.plain rfl (fun L u T X hL hz hS hk K hK => ?_) ?_
    · skip
      have g28 : T[28]? = some (.pointer (some ⟨cb, 0, none⟩)) := hk.val 7 28 (by kernel_rfl) (by kernel_rfl) rfl
      have hd : L 12 = false := hz 12 (by kernel_rfl)
      obtain ⟨c0, _, hbz⟩ := cells1A (hS.pat hd)
      have hK := hK _ X hS (fun _ hx => Option.some.inj hx)
      clear hk hz hL
      go_simp
      exact hK
    refine Reg.EachG.plain rfl (fun L u T X hL hz hS hk K hK => ?_) ?_
    · skip
      have g29 : T[29]? = some (.slice (some ⟨g4, 0, none⟩) l4.length cap4) := hk.val 8 29 (by kernel_rfl) (by kernel_rfl) rfl
      have hK := hK _ X hS (fun _ hx => Option.some.inj hx)
      clear hk hz hL
      go_simp
      exact hK
    refine Reg.EachG.plain rfl (fun L u T X hL hz hS hk K hK => ?_) ?_
    · skip
      have g24 : T[24]? = some (.slice (some ⟨g4, 0, none⟩) l4.length cap4) := hk.val 3 24 (by kernel_rfl) (by kernel_rfl) rfl
      have g25 : T[25]? = some (.int .i64 (l1.length : Nat)) := hk.val 4 25 (by kernel_rfl) (by kernel_rfl) rfl
      have hK := hK _ X hS (fun _ hx => Option.some.inj hx)
      clear hk hz hL
      go_simp
      exact hK
    refine Reg.EachG.plain rfl (fun L u T X hL hz hS hk K hK => ?_) ?_
    · skip
      have g31 : T[31]? = some (.pointer (some ⟨g4, l1.length * 6, none⟩)) := hk.val 10 31 (by kernel_rfl) (by kernel_rfl) rfl
      have hK := hK _ X hS (fun _ hx => Option.some.inj hx)
      clear hk hz hL
      go_simp
      exact hK
    refine Reg.EachG.plain rfl (fun L u T X hL hz hS hk K hK => ?_) ?_
    · skip
      have g30 : T[30]? = some (.int .i64 (l4.length : Nat)) := hk.val 9 30 (by kernel_rfl) (by kernel_rfl) rfl
      have g32 : T[32]? = some (.pointer (some ⟨g4, l1.length * 6 + 5, none⟩)) := hk.val 11 32 (by kernel_rfl) (by kernel_rfl) rfl
      have hS1 := hS.pt
      rw [hL, if_neg (by decide)] at hS1
      obtain ⟨g0, cap0, u0, hp, hnc, hcell, hfz, hlt, hco', hch'⟩ := hS1.co.goes H4I.out l4.length
      have hpp := (hS.pat hL).symm.trans hp
      simp only [Option.some.injEq, Obj.cells.injEq, Array.mk.injEq, List.cons.injEq, Value.slice.injEq, Addr.mk.injEq, and_true, true_and] at hpp
      obtain ⟨rfl, rfl⟩ := hpp
      rw [← HL5.out] at hco'
      have hSt := hS1.ch
      have hK := hK undef (X.setCell ⟨g4, l1.length * 6 + 5, none⟩ (.int .i64 (l4.length : Nat))) ⟨(by rw [Reg.upd_same, if_pos rfl]; exact hS1.step hco' (hch' X (Nat.le_trans hBw hSt.bel.size) (ChC.refl B X)) (by decide) (by decide)), fun h => (by rw [Reg.upd_same] at h; cases h)⟩ (fun _ hx => by cases hx)
      clear hk hz hL hS hS1 hSt hp hnc hco' hch'
      go_simp
      exact hK
    exact Reg.EachG.nil
  case rsZ =>
    intro L u w5 hL hS hI
    have e0 : u 0 = .pointer (some ⟨cb, 0, none⟩) := hI 0 (by decide) _ rfl
    have e1 : u 1 = .pointer (some ⟨cb, 0, none⟩) := hI 1 (by decide) _ rfl
    have e2 : u 2 = .pointer (some ⟨cb, 0, none⟩) := hI 2 (by decide) _ rfl
    have e3 : u 3 = .slice (some ⟨g4, 0, none⟩) l4.length cap4 := hI 3 (by decide) _ rfl
    have e4 : u 4 = .int .i64 (l1.length : Nat) := hI 4 (by decide) _ rfl
    have e5 : u 5 = .pointer (some ⟨cb, 0, none⟩) := hI 5 (by decide) _ rfl
    have e6 : u 6 = .pointer (some ⟨cb, 0, none⟩) := hI 6 (by decide) _ rfl
    have e7 : u 7 = .pointer (some ⟨cb, 0, none⟩) := hI 7 (by decide) _ rfl
    have e8 : u 8 = .slice (some ⟨g4, 0, none⟩) l4.length cap4 := hI 8 (by decide) _ rfl
    have e9 : u 9 = .int .i64 (l4.length : Nat) := hI 9 (by decide) _ rfl
    have e10 : u 10 = .pointer (some ⟨g4, l1.length * 6, none⟩) := hI 10 (by decide) _ rfl
    have e11 : u 11 = .pointer (some ⟨g4, l1.length * 6 + 5, none⟩) := hI 11 (by decide) _ rfl
    clear hI
    simp only [Reg.putAll, Act.put, List.setIfInBounds_toArray, List.set_cons_succ, List.set_cons_zero, Nat.zero_add, Nat.reduceAdd, e0, e1, e2, e3, e4, e5, e6, e7, e8, e9, e10, e11]
    clear e0 e1 e2 e3 e4 e5 e6 e7 e8 e9 e10 e11
    have h12 := hL 12 (by decide)
    have hS1 := hS.pt
    rw [h12, if_pos rfl] at hS1
    have HS5 := Lib.hid hS1
    clear hS hS1 h12 hL u L
    go_wp2_with fail
    refine (HN.out _ HS5.out.co HS5.out.ch).mono ?_
    rintro x w6 ⟨rfl, hg1, hc1⟩
    have HS6 := Lib.hid (HS5.out.step hg1 hc1 (by decide) (by decide))
    clear hg1 hc1
    go_wp2_with fail
    obtain ⟨g6, cap6, u6, hp6, hnc6, _⟩ := HS6.out.co.goes H6I.out 0
    have HP6 := Lib.hid hp6
    clear hp6
    refine Reg.wp_region_sto (fun L u X => BrS B cb w.heap.size w W pc l6 l7 (.slice (some ⟨g6, 0, none⟩) l6.length cap6) (L 12) X) (fun j => ([some (.pointer (some ⟨cb, 0, none⟩)), some (.pointer (some ⟨cb, 0, none⟩)), some (.pointer (some ⟨cb, 0, none⟩)), some (.slice (some ⟨g6, 0, none⟩) l6.length cap6), some (.int .i64 (l3.length : Nat)), some (.pointer (some ⟨cb, 0, none⟩)), some (.pointer (some ⟨cb, 0, none⟩)), some (.pointer (some ⟨cb, 0, none⟩)), some (.slice (some ⟨g6, 0, none⟩) l6.length cap6), some (.int .i64 (l6.length : Nat)), some (.pointer (some ⟨g6, l3.length * 6, none⟩)), some (.pointer (some ⟨g6, l3.length * 6 + 5, none⟩)), none] : List (Option Value)).getD j none) (by kernel_rfl) (by kernel_rfl) (by kernel_rfl) (by kernel_rfl) ?rs0 ?rsE ?rsZ
    case rs0 => exact ⟨HS6.out.drew hBw, fun _ => HP6.out⟩
    case rsE =>
      refine Reg.EachG.plain rfl (fun L u T X hL hz hS hk K hK => ?_) ?_
      · skip
        have g0 : T[0]? = some (.pointer (some ⟨cb, 0, none⟩)) := hk.old 0 (by kernel_rfl) rfl
        have hK := hK _ X hS (fun _ hx => Option.some.inj hx)
        clear hk hz hL
        go_simp
        exact hK
      refine Reg.EachG.plain rfl (fun L u T X hL hz hS hk K hK => ?_) ?_
      · skip
        have g35 : T[35]? = some (.pointer (some ⟨cb, 0, none⟩)) := hk.val 0 35 (by kernel_rfl) (by kernel_rfl) rfl
        have hK := hK _ X hS (fun _ hx => Option.some.inj hx)
        clear hk hz hL
        go_simp
        exact hK
      refine Reg.EachG.plain rfl (fun L u T X hL hz hS hk K hK => ?_) ?_
      · skip
        have g36 : T[36]? = some (.pointer (some ⟨cb, 0, none⟩)) := hk.val 1 36 (by kernel_rfl) (by kernel_rfl) rfl
        have hK := hK _ X hS (fun _ hx => Option.some.inj hx)
        clear hk hz hL
        go_simp
        exact hK
      refine Reg.EachG.plain rfl (fun L u T X hL hz hS hk K hK => ?_) ?_
      · skip
        have g37 : T[37]? = some (.pointer (some ⟨cb, 0, none⟩)) := hk.val 2 37 (by kernel_rfl) (by kernel_rfl) rfl
        have hd : L 12 = false := hz 12 (by kernel_rfl)
        obtain ⟨c0, _, hbz⟩ := cells1A (hS.pat hd)
        have hK := hK _ X hS (fun _ hx => Option.some.inj hx)
        clear hk hz hL
        go_simp
        exact hK
      refine Reg.EachG.plain rfl (fun L u T X hL hz hS hk K hK => ?_) ?_
      · skip
        have g9 : T[9]? = some (.int .i64 (l3.length : Nat)) := hk.old 9 (by kernel_rfl) rfl
        have hK := hK _ X hS (fun _ hx => Option.some.inj hx)
        clear hk hz hL
        go_simp
        exact hK
      refine Reg.EachG.plain rfl (fun L u T X hL hz hS hk K hK => ?_) ?_
      · skip
        have g0 : T[0]? = some (.pointer (some ⟨cb, 0, none⟩)) := hk.old 0 (by kernel_rfl) rfl
        have hK := hK _ X hS (fun _ hx => Option.some.inj hx)
        clear hk hz hL
        go_simp
        exact hK
      refine Reg.EachG.plain rfl (fun L u T X hL hz hS hk K hK => ?_) ?_
      · skip
        have g40 : T[40]? = some (.pointer (some ⟨cb, 0, none⟩)) := hk.val 5 40 (by kernel_rfl) (by kernel_rfl) rfl
        have hK := hK _ X hS (fun _ hx => Option.some.inj hx)
        clear hk hz hL
        go_simp
        exact hK
      refine Reg.EachG.plain rfl (fun L u T X hL hz hS hk K hK => ?_) ?_
      · skip
        have g41 : T[41]? = some (.pointer (some ⟨cb, 0, none⟩)) := hk.val 6 41 (by kernel_rfl) (by kernel_rfl) rfl
        have hK := hK _ X hS (fun _ hx => Option.some.inj hx)
        clear hk hz hL
        go_simp
        exact hK
      refine Reg.EachG.plain rfl (fun L u T X hL hz hS hk K hK => ?_) ?_
      · skip
        have g42 : T[42]? = some (.pointer (some ⟨cb, 0, none⟩)) := hk.val 7 42 (by kernel_rfl) (by kernel_rfl) rfl
        have hd : L 12 = false := hz 12 (by kernel_rfl)
        obtain ⟨c0, _, hbz⟩ := cells1A (hS.pat hd)
        have hK := hK _ X hS (fun _ hx => Option.some.inj hx)
        clear hk hz hL
        go_simp
        exact hK
      refine Reg.EachG.plain rfl (fun L u T X hL hz hS hk K hK => ?_) ?_
      · skip
        have g43 : T[43]? = some (.slice (some ⟨g6, 0, none⟩) l6.length cap6) := hk.val 8 43 (by kernel_rfl) (by kernel_rfl) rfl
        have hK := hK _ X hS (fun _ hx => Option.some.inj hx)
        clear hk hz hL
        go_simp
        exact hK
      refine Reg.EachG.plain rfl (fun L u T X hL hz hS hk K hK => ?_) ?_
      · skip
        have g38 : T[38]? = some (.slice (some ⟨g6, 0, none⟩) l6.length cap6) := hk.val 3 38 (by kernel_rfl) (by kernel_rfl) rfl
        have g39 : T[39]? = some (.int .i64 (l3.length : Nat)) := hk.val 4 39 (by kernel_rfl) (by kernel_rfl) rfl
        have hK := hK _ X hS (fun _ hx => Option.some.inj hx)
        clear hk hz hL
        go_simp
        exact hK
      refine Reg.EachG.plain rfl (fun L u T X hL hz hS hk K hK => ?_) ?_
      · skip
        have g45 : T[45]? = some (.pointer (some ⟨g6, l3.length * 6, none⟩)) := hk.val 10 45 (by kernel_rfl) (by kernel_rfl) rfl
        have hK := hK _ X hS (fun _ hx => Option.some.inj hx)
        clear hk hz hL
        go_simp
        exact hK
      refine Reg.EachG.plain rfl (fun L u T X hL hz hS hk K hK => ?_) ?_
      · skip
        have g44 : T[44]? = some (.int .i64 (l6.length : Nat)) := hk.val 9 44 (by kernel_rfl) (by kernel_rfl) rfl
        have g46 : T[46]? = some (.pointer (some ⟨g6, l3.length * 6 + 5, none⟩)) := hk.val 11 46 (by kernel_rfl) (by kernel_rfl) rfl
        have hS1 := hS.pt
        rw [hL, if_neg (by decide)] at hS1
        obtain ⟨g0, cap0, u0, hp, hnc, hcell, hfz, hlt, hco', hch'⟩ := hS1.co.goes H6I.out l6.length
        have hpp := (hS.pat hL).symm.trans hp
        simp only [Option.some.injEq, Obj.cells.injEq, Array.mk.injEq, List.cons.injEq, Value.slice.injEq, Addr.mk.injEq, and_true, true_and] at hpp
        obtain ⟨rfl, rfl⟩ := hpp
        rw [← HL7E.out] at hco'
        have hSt := hS1.ch
        have hK := hK undef (X.setCell ⟨g6, l3.length * 6 + 5, none⟩ (.int .i64 (l6.length : Nat))) ⟨(by rw [Reg.upd_same, if_pos rfl]; exact hS1.step hco' (hch' X (Nat.le_trans hBw hSt.bel.size) (ChC.refl B X)) (by decide) (by decide)), fun h => (by rw [Reg.upd_same] at h; cases h)⟩ (fun _ hx => by cases hx)
        clear hk hz hL hS hS1 hSt hp hnc hco' hch'
        go_simp
        exact hK
      exact Reg.EachG.nil
    case rsZ =>
      intro L u w7 hL hS hI
      have e0 : u 0 = .pointer (some ⟨cb, 0, none⟩) := hI 0 (by decide) _ rfl
      have e1 : u 1 = .pointer (some ⟨cb, 0, none⟩) := hI 1 (by decide) _ rfl
      have e2 : u 2 = .pointer (some ⟨cb, 0, none⟩) := hI 2 (by decide) _ rfl
      have e3 : u 3 = .slice (some ⟨g6, 0, none⟩) l6.length cap6 := hI 3 (by decide) _ rfl
      have e4 : u 4 = .int .i64 (l3.length : Nat) := hI 4 (by decide) _ rfl
      have e5 : u 5 = .pointer (some ⟨cb, 0, none⟩) := hI 5 (by decide) _ rfl
      have e6 : u 6 = .pointer (some ⟨cb, 0, none⟩) := hI 6 (by decide) _ rfl
      have e7 : u 7 = .pointer (some ⟨cb, 0, none⟩) := hI 7 (by decide) _ rfl
      have e8 : u 8 = .slice (some ⟨g6, 0, none⟩) l6.length cap6 := hI 8 (by decide) _ rfl
      have e9 : u 9 = .int .i64 (l6.length : Nat) := hI 9 (by decide) _ rfl
      have e10 : u 10 = .pointer (some ⟨g6, l3.length * 6, none⟩) := hI 10 (by decide) _ rfl
      have e11 : u 11 = .pointer (some ⟨g6, l3.length * 6 + 5, none⟩) := hI 11 (by decide) _ rfl
      clear hI
      simp only [Reg.putAll, Act.put, List.setIfInBounds_toArray, List.set_cons_succ, List.set_cons_zero, Nat.zero_add, Nat.reduceAdd, e0, e1, e2, e3, e4, e5, e6, e7, e8, e9, e10, e11]
      clear e0 e1 e2 e3 e4 e5 e6 e7 e8 e9 e10 e11
      have h12 := hL 12 (by decide)
      have hS1 := hS.pt
      rw [h12, if_pos rfl] at hS1
      have HS7 := Lib.hid hS1
      clear hS hS1 h12 hL u L
      go_wp2_with fail
      go_end0
      exact ⟨rfl, HS7.out.co, HS7.out.ch⟩
end Go.Proofs.YthpmkpnndbjflaaGreatDoor
