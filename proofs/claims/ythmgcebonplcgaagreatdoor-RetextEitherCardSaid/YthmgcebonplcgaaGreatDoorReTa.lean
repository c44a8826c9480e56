/- The text of a tree that is a set, a beginning, an end, nothing (gen_reta.py). -/
import Derived.Test.YthmgcebonplcgaaGreatDoorKRv
import Derived.Test.YthmgcebonplcgaaGreatDoorReTx
import Derived.Test.YthmgcebonplcgaaGreatDoorSeTxt
namespace Go.Proofs.YthmgcebonplcgaaGreatDoor
open Go.RowKit

theorem eq_noM (p q : Nat → Bool) (c : Nat) (hc : c < 256) (h : p c ≠ q c) (w : World) :
    (Op.equalIn 10000 36 (.agg #[.int .u64 (sw p 0 : Nat), .int .u64 (sw p 1 : Nat), .int .u64 (sw p 2 : Nat), .int .u64 (sw p 3 : Nat)]) (.agg #[.int .u64 (sw q 0 : Nat), .int .u64 (sw q 1 : Nat), .int .u64 (sw q 2 : Nat), .int .u64 (sw q 3 : Nat)])).run Tryz.prog w = .ok false w := by
  rw [eq_arr 9998]
  congr 1
  cases hb : (((sw p 0 : Nat) : Int) == (sw q 0 : Nat)) && ((((sw p 1 : Nat) : Int) == (sw q 1 : Nat)) && ((((sw p 2 : Nat) : Int) == (sw q 2 : Nat)) && (((sw p 3 : Nat) : Int) == (sw q 3 : Nat)))) with
  | false => rfl
  | true =>
    exfalso
    simp only [Bool.and_eq_true, beq_iff_eq] at hb
    obtain ⟨h0, h1, h2, h3⟩ := hb
    have hz : ∀ i, i < 4 → sw p i = sw q i := fun i hi => by
      rcases (by omega : i = 0 ∨ i = 1 ∨ i = 2 ∨ i = 3) with rfl | rfl | rfl | rfl <;> omega
    have := wd_inj (hz (c / 64) (by omega)) (c % 64) (Nat.mod_lt _ (by decide))
    rw [Nat.div_add_mod] at this
    exact h this
theorem full_eq (p : Nat → Bool) (w : World) : (Op.equalIn 10000 36 (SV p) (SV allP)).run Tryz.prog w = .ok (fullP p) w := by
  unfold SV
  cases hf : fullP p with
  | true =>
    refine eq_yesM p allP (fun c hc => ?_) w
    unfold fullP at hf
    rw [List.all_eq_true] at hf
    rw [hf c (List.mem_range.2 hc)]
    rfl
  | false =>
    unfold fullP at hf
    have : ¬ ∀ c ∈ List.range 256, p c = true := fun h => by rw [List.all_eq_true.2 h] at hf; cases hf
    obtain ⟨c, hc⟩ := Classical.not_forall.1 this
    obtain ⟨hc1, hc2⟩ := Classical.not_imp.1 hc
    exact eq_noM p allP c (List.mem_range.1 hc1) (fun e => hc2 (by rw [e]; rfl)) w
theorem set_size4 : (Tryz.prog.info? 36).map (·.size) = some 4 := by kernel_rfl
/-- What text tells of a tree. -/
def TxP (n : Nd) (w : World) (x : Ending) (w' : World) : Prop := x = .returned (.string ⟨n.txt.toArray⟩) ∧ Below w.heap.size w w'

set_option maxRecDepth 100000 in
set_option maxHeartbeats 8000000 in
theorem text_set (n : Nd) (a : Option Addr) (m c : Nat) (w : World) (hk : n.kd = 1) (hT : TZ w) (hD : DB w) :
    Calls Tryz.prog 20 #[n.v (.slice a m c)] w (TxP n w) := by
  obtain ⟨W, hW⟩ : ∃ W, W = w.alloc (.cells (n.cells (.slice a m c)).toArray 39) := ⟨_, rfl⟩
  have hbx : W.heap[w.heap.size]? = some (.cells (n.cells (.slice a m c)).toArray 39 (0, 0)) := by rw [hW]; exact alloc_last w _
  have hb : Below w.heap.size w W := by rw [hW]; exact (Below.refl _ _).alloc (Nat.le_refl _) _
  have hwl : w.heap.size < W.heap.size := lt_blkB hbx
  have c0 : W.cell? ⟨w.heap.size, 0, none⟩ = some (.int .i64 1) := (Lib.cell_of_heap hbx 0).trans (by rw [← hk]; rfl)
  have HTX : Hid (n.txt = if fullP n.p = true then [46] else textL n.p) := Lib.hid (by unfold Nd.txt nodeT; rw [if_pos hk])
  have HXT : Hid (∀ X, Below W.heap.size W X → Calls Tryz.prog 32 #[SV n.p] X fun x w' => x = .returned (.string (textS n.p)) ∧ Below X.heap.size X w') := Lib.hid (fun X hX => text_any n.p X ((hT.below hb).below hX) ((hD.below hb).below hX))
  have HEQ : Hid (∀ X, (Op.equalIn 10000 36 (SV n.p) (SV allP)).run Tryz.prog X = .ok (fullP n.p) X) := Lib.hid (full_eq n.p)
  have HS4 : Hid (∀ i u, [Value.int .u64 (sw n.p 0 : Nat), .int .u64 (sw n.p 1 : Nat), .int .u64 (sw n.p 2 : Nat), .int .u64 (sw n.p 3 : Nat)][i]? = some u → (n.cells (.slice a m c)).toArray[1 + i]? = some u) := Lib.hid (fun i u hu => by
    have hl : i < 4 := (List.getElem?_eq_some_iff.1 hu).1
    match i, hl with
    | 0, _ => exact hu
    | 1, _ => exact hu
    | 2, _ => exact hu
    | 3, _ => exact hu)
  have HBX := Lib.hid hbx
  have HB := Lib.hid hb
  have HWE := Lib.hid hW
  have HNV : Hid (n.v (.slice a m c) = .agg (n.cells (.slice a m c)).toArray) := Lib.hid rfl
  rw [HNV.out]
  clear hbx hb hW hk hT hD
  generalize n.p = p at *
  have HCE : Hid ((n.cells (.slice a m c)).toArray = (n.cells (.slice a m c)).toArray) := Lib.hid rfl
  generalize (n.cells (.slice a m c)).toArray = cs at *
  unfold TxP
  go_enter Tryz.func20, Tryz.ntmps20
  go_upto_region 1 with fail
  rw [← HWE.out]
  go_upto_region 5 with fail
  clear c0
  refine Reg.wp_region_sto (fun _ _ X => Below W.heap.size W X) (fun j => ([some (.pointer (some ⟨w.heap.size, 1, none⟩)), some (SV p), some (SV allP), some (.bool (fullP p))] : List (Option Value)).getD j none) (by kernel_rfl) (by kernel_rfl) (by kernel_rfl) (by kernel_rfl) ?rs0 ?rsE ?rsZ
  case rs0 => exact (Below.refl _ _).drew
  case rsE =>
    refine Reg.EachG.plain rfl (fun L u T X hL hz hS hk K hK => ?_) ?_
    · skip
      have g1 : T[1]? = some (.pointer (some ⟨w.heap.size, 0, none⟩)) := hk.old 1 (by kernel_rfl) rfl
      have hK := hK _ X hS (fun _ hx => Option.some.inj hx)
      clear hk hz hL
      go_simp
      exact hK
    refine Reg.EachG.plain rfl (fun L u T X hL hz hS hk K hK => ?_) ?_
    · skip
      have g10 : T[10]? = some (.pointer (some ⟨w.heap.size, 1, none⟩)) := hk.val 0 10 (by kernel_rfl) (by kernel_rfl) rfl
      refine wp_load_part 36 _ rfl w.heap.size 1 (by simp [Act.eval, g10]) _ cs [Value.int .u64 (sw p 0 : Nat), .int .u64 (sw p 1 : Nat), .int .u64 (sw p 2 : Nat), .int .u64 (sw p 3 : Nat)] (0, 0) _ (blk_below HBX.out hS) HS4.out Tryz.underlying36 rfl set_size4 ?_
      exact hK _ X hS (fun _ hx => Option.some.inj hx)
    refine Reg.EachG.plain rfl (fun L u T X hL hz hS hk K hK => ?_) ?_
    · skip
      clear hk hz
      go_simp
      refine (anyByte_any X).mono ?_
      rintro x w1 ⟨rfl, hb1⟩
      exact hK _ w1 (below_thn hS (Nat.le_refl _) hb1) (fun _ hx => Option.some.inj hx)
    refine Reg.EachG.plain rfl (fun L u T X hL hz hS hk K hK => ?_) ?_
    · skip
      have g11 : T[11]? = some (SV p) := hk.val 1 11 (by kernel_rfl) (by kernel_rfl) rfl
      have g12 : T[12]? = some (SV allP) := hk.val 2 12 (by kernel_rfl) (by kernel_rfl) rfl
      have heq := HEQ.out X
      have hK := hK _ X hS (fun _ hx => Option.some.inj hx)
      clear hk hz hL hS
      unfold SV at g11 g12 heq
      go_simp
      exact hK
    exact Reg.EachG.nil
  case rsZ =>
    intro L u w9 hL hS hI
    have e0 : u 0 = .pointer (some ⟨w.heap.size, 1, none⟩) := hI 0 (by decide) _ rfl
    have e1 : u 1 = SV p := hI 1 (by decide) _ rfl
    have e2 : u 2 = SV allP := hI 2 (by decide) _ rfl
    have e3 : u 3 = .bool (fullP p) := hI 3 (by decide) _ rfl
    clear hI
    simp only [Reg.putAll, Act.put, List.setIfInBounds_toArray, List.set_cons_succ, List.set_cons_zero, Nat.zero_add, Nat.reduceAdd, e0, e1, e2, e3]
    clear e0 e1 e2 e3
    have HB9 : Hid (Below w.heap.size w w9) := Lib.hid (below_thn HB.out (Nat.le_refl _) hS)
    have HX9 := Lib.hid (HXT.out w9 hS)
    have HBX9 := Lib.hid (blk_below HBX.out hS)
    have hw9 : w.heap.size < w9.heap.size := Nat.lt_of_lt_of_le hwl hS.size
    clear hS hL u L HXT
    generalize hfb : fullP p = fb at *
    cases fb
    · rw [if_neg (by decide)] at HTX
      go_wp2_with (first | (refine wpList_load_part rfl 36 _ rfl w.heap.size 1 rfl _ cs [Value.int .u64 (sw p 0 : Nat), .int .u64 (sw p 1 : Nat), .int .u64 (sw p 2 : Nat), .int .u64 (sw p 3 : Nat)] (0, 0) _ HBX9.out HS4.out Tryz.underlying36 rfl set_size4 ?_) | fail)
      refine HX9.out.mono ?_
      rintro x w10 ⟨rfl, hb10⟩
      have HBF := Lib.hid (below_thn HB9.out (Nat.le_refl _) hb10)
      clear hb10
      go_wp2
      go_ret
      exact ⟨by rw [HTX.out]; rfl, HBF.out⟩
    · rw [if_pos rfl] at HTX
      go_wp2
      go_ret
      exact ⟨by rw [HTX.out]; rfl, HB9.out⟩
set_option maxRecDepth 100000 in
set_option maxHeartbeats 8000000 in
theorem text_beg (n : Nd) (a : Option Addr) (m c : Nat) (w : World) (hk : n.kd = 2) :
    Calls Tryz.prog 20 #[n.v (.slice a m c)] w (TxP n w) := by
  have HTX : Hid (n.txt = [94]) := Lib.hid (by unfold Nd.txt nodeT; rw [hk]; rfl)
  unfold TxP Nd.v Nd.cells
  rw [HTX.out, hk]
  clear hk
  go_enter Tryz.func20, Tryz.ntmps20
  go_wp2
  go_ret
  exact ⟨rfl, (Below.refl _ _).alloc (Nat.le_refl _) _⟩
set_option maxRecDepth 100000 in
set_option maxHeartbeats 8000000 in
theorem text_fin (n : Nd) (a : Option Addr) (m c : Nat) (w : World) (hk : n.kd = 3) :
    Calls Tryz.prog 20 #[n.v (.slice a m c)] w (TxP n w) := by
  have HTX : Hid (n.txt = [36]) := Lib.hid (by unfold Nd.txt nodeT; rw [hk]; rfl)
  unfold TxP Nd.v Nd.cells
  rw [HTX.out, hk]
  clear hk
  go_enter Tryz.func20, Tryz.ntmps20
  go_wp2
  go_ret
  exact ⟨rfl, (Below.refl _ _).alloc (Nat.le_refl _) _⟩
set_option maxRecDepth 100000 in
set_option maxHeartbeats 8000000 in
theorem rtext_none (n : Nd) (a : Option Addr) (m c : Nat) (w : World) (hk : ¬ (1 ≤ n.kd ∧ n.kd ≤ 7)) :
    Calls Tryz.prog 20 #[n.v (.slice a m c)] w (TxP n w) := by
  have e1 : (n.kd == 1) = false := by simp; omega
  have e2 : (n.kd == 2) = false := by simp; omega
  have e3 : (n.kd == 3) = false := by simp; omega
  have e4 : (n.kd == 4) = false := by simp; omega
  have e5 : (n.kd == 5) = false := by simp; omega
  have e6 : (n.kd == 6) = false := by simp; omega
  have e7 : (n.kd == 7) = false := by simp; omega
  have HTX : Hid (n.txt = []) := Lib.hid (by unfold Nd.txt nodeT headT; rw [if_neg (by omega), if_neg (by omega), if_neg (by omega), if_neg (by omega), if_neg (by omega), if_neg (by omega), if_neg (by omega)])
  unfold TxP Nd.v Nd.cells
  rw [HTX.out]
  generalize n.kd = kd at *
  clear hk
  go_enter Tryz.func20, Tryz.ntmps20
  go_wp2
  go_ret
  exact ⟨rfl, (Below.refl _ _).alloc (Nat.le_refl _) _⟩
end Go.Proofs.YthmgcebonplcgaaGreatDoor
