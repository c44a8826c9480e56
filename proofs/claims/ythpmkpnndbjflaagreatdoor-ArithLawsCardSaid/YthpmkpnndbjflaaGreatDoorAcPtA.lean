/- part: a leaf, one operand, two operands (gen_acpt.py). -/
import Derived.Test.YthpmkpnndbjflaaGreatDoorKPp
namespace Go.Proofs.YthpmkpnndbjflaaGreatDoor
open Go.RowKit

set_option maxRecDepth 100000 in
set_option maxHeartbeats 8000000 in
theorem part_num (n : Int) (p : Nat) : PartC (.num n p) := by
  intro B cb kv l w h hBw hlay hlen
  obtain rfl : kv = .slice none 0 0 := hlay
  obtain ⟨pc, hpc⟩ : ∃ pc : Array Value, pc = #[.string ⟨#[110, 117, 109]⟩, .int .i64 n, .string ⟨#[]⟩, .int .i64 p, .int .i64 0, .slice none 0 0] := ⟨_, rfl⟩
  obtain ⟨W, hW⟩ : ∃ W, W = box2 w cb pc := ⟨_, rfl⟩
  have HSa : Hid (PtS B cb w.heap.size (w.heap.size + 1) w W #[.pointer (some ⟨cb, 0, none⟩)] 180 pc l W) := Lib.hid (by rw [hW]; exact box2_pts h hBw pc)
  have HWE : Hid (W = (w.alloc (.cells #[.pointer (some ⟨cb, 0, none⟩)] 180)).alloc (.cells #[.string ⟨#[110, 117, 109]⟩, .int .i64 n, .string ⟨#[]⟩, .int .i64 p, .int .i64 0, .slice none 0 0] 60)) := Lib.hid (by rw [hW, hpc]; rfl)
  have HPC := Lib.hid hpc
  obtain ⟨_, _, _, _, _, _, hz1⟩ := cells6A (by have := HSa.out.b1; rw [HPC.out] at this; exact this)
  have HPU1 : Hid (∀ X, CoAt B cb (l) X → B ≤ X.heap.size → Calls Tryz.prog 119 #[.pointer (some ⟨cb, 0, none⟩), .agg (iPush n : Ins).cells.toArray] X fun x w' => x = .returned (.int .i64 ((l).length : Nat)) ∧ CoAt B cb (l ++ [iPush n]) w' ∧ ChC B X w') := Lib.hid (fun X hX hB => cput_any B cb _ _ X hX hB (by omega))
  clear h hlen hpc hW
  have d0 : W.cell? ⟨w.heap.size, 0, none⟩ = some (.pointer (some ⟨cb, 0, none⟩)) := (Lib.cell_of_heap HSa.out.b0 0).trans rfl
  have hb1 := HSa.out.b1
  rw [HPC.out] at hb1
  obtain ⟨c0, c1, c2, c3, c4, c5, _⟩ := cells6A hb1
  clear hb1
  show Calls Tryz.prog 88 #[.pointer (some ⟨cb, 0, none⟩), .agg #[.string ⟨#[110, 117, 109]⟩, .int .i64 n, .string ⟨#[]⟩, .int .i64 p, .int .i64 0, .slice none 0 0]] w _
  go_enter Tryz.func88, Tryz.ntmps88
  go_upto_region 4 with fail
  rw [← HWE.out]
  go_wp2_with fail
  refine (HPU1.out W HSa.out.co (Nat.le_trans hBw HSa.out.ch.bel.size)).mono ?_
  rintro x w2 ⟨rfl, hg1, hc1⟩
  have HG1 := Lib.hid hg1
  have HC1 := Lib.hid (HSa.out.ch.trans hc1)
  clear hg1 hc1
  go_wp2_with fail
  go_end0
  exact ⟨rfl, HG1.out, HC1.out⟩
set_option maxRecDepth 100000 in
set_option maxHeartbeats 8000000 in
theorem part_name (s : ByteArray) (p : Nat) : PartC (.name s p) := by
  intro B cb kv l w h hBw hlay hlen
  obtain rfl : kv = .slice none 0 0 := hlay
  obtain ⟨pc, hpc⟩ : ∃ pc : Array Value, pc = #[.string ⟨#[110, 97, 109, 101]⟩, .int .i64 0, .string s, .int .i64 p, .int .i64 0, .slice none 0 0] := ⟨_, rfl⟩
  obtain ⟨W, hW⟩ : ∃ W, W = box2 w cb pc := ⟨_, rfl⟩
  have HSa : Hid (PtS B cb w.heap.size (w.heap.size + 1) w W #[.pointer (some ⟨cb, 0, none⟩)] 180 pc l W) := Lib.hid (by rw [hW]; exact box2_pts h hBw pc)
  have HWE : Hid (W = (w.alloc (.cells #[.pointer (some ⟨cb, 0, none⟩)] 180)).alloc (.cells #[.string ⟨#[110, 97, 109, 101]⟩, .int .i64 0, .string s, .int .i64 p, .int .i64 0, .slice none 0 0] 60)) := Lib.hid (by rw [hW, hpc]; rfl)
  have HPC := Lib.hid hpc
  obtain ⟨_, _, _, _, _, _, hz1⟩ := cells6A (by have := HSa.out.b1; rw [HPC.out] at this; exact this)
  have HPU1 : Hid (∀ X, CoAt B cb (l) X → B ≤ X.heap.size → Calls Tryz.prog 119 #[.pointer (some ⟨cb, 0, none⟩), .agg (iLoad s p : Ins).cells.toArray] X fun x w' => x = .returned (.int .i64 ((l).length : Nat)) ∧ CoAt B cb (l ++ [iLoad s p]) w' ∧ ChC B X w') := Lib.hid (fun X hX hB => cput_any B cb _ _ X hX hB (by omega))
  clear h hlen hpc hW
  have d0 : W.cell? ⟨w.heap.size, 0, none⟩ = some (.pointer (some ⟨cb, 0, none⟩)) := (Lib.cell_of_heap HSa.out.b0 0).trans rfl
  have hb1 := HSa.out.b1
  rw [HPC.out] at hb1
  obtain ⟨c0, c1, c2, c3, c4, c5, _⟩ := cells6A hb1
  clear hb1
  show Calls Tryz.prog 88 #[.pointer (some ⟨cb, 0, none⟩), .agg #[.string ⟨#[110, 97, 109, 101]⟩, .int .i64 0, .string s, .int .i64 p, .int .i64 0, .slice none 0 0]] w _
  go_enter Tryz.func88, Tryz.ntmps88
  go_upto_region 4 with fail
  rw [← HWE.out]
  go_wp2_with fail
  refine (HPU1.out W HSa.out.co (Nat.le_trans hBw HSa.out.ch.bel.size)).mono ?_
  rintro x w2 ⟨rfl, hg1, hc1⟩
  have HG1 := Lib.hid hg1
  have HC1 := Lib.hid (HSa.out.ch.trans hc1)
  clear hg1 hc1
  go_wp2_with fail
  go_end0
  exact ⟨rfl, HG1.out, HC1.out⟩
set_option maxRecDepth 100000 in
set_option maxHeartbeats 8000000 in
theorem part_un (op : ByteArray) (p : Nat) (a : Tr) (iha : PartC a) (hn0 : ¬ op = ⟨#[110, 117, 109]⟩) (hn1 : ¬ op = ⟨#[110, 97, 109, 101]⟩) (hn2 : ¬ op = ⟨#[63]⟩) (hn3 : ¬ op = ⟨#[38, 38]⟩) (hn4 : ¬ op = ⟨#[124, 124]⟩) : PartC (.un op p a) := by
  intro B cb kv l w h hBw hlay hlen
  obtain ⟨va, hr, ha⟩ := hlay
  have hr' : RowOf w (fun k => k < B) kv 1 (rowK (k1 a) (v1 va) 1) := by rw [rowK_1]; exact hr
  obtain ⟨g, cap, cur, rfl, hcap, hgB, hg, hcl⟩ := hr'.kid
  have hka : ∀ j u, (a.cells va)[j]? = some u → cur[0 + j]? = some u := hcl 0 (by omega)
  obtain ⟨pc, hpc⟩ : ∃ pc : Array Value, pc = #[.string op, .int .i64 0, .string ⟨#[]⟩, .int .i64 p, .int .i64 0, .slice (some ⟨g, 0, none⟩) 1 cap] := ⟨_, rfl⟩
  have hcl : (comp (.un op p a) 0).length = (comp a 0).length + 1 := by simp [comp]
  have hla : (comp a l.length).length = (comp a 0).length := comp_len _ _ _
  rw [hcl] at hlen
  obtain ⟨W, hW⟩ : ∃ W, W = box2 w cb pc := ⟨_, rfl⟩
  have HSa : Hid (PtS B cb w.heap.size (w.heap.size + 1) w W #[.pointer (some ⟨cb, 0, none⟩)] 180 pc l W) := Lib.hid (by rw [hW]; exact box2_pts h hBw pc)
  have HWE : Hid (W = (w.alloc (.cells #[.pointer (some ⟨cb, 0, none⟩)] 180)).alloc (.cells #[.string op, .int .i64 0, .string ⟨#[]⟩, .int .i64 p, .int .i64 0, .slice (some ⟨g, 0, none⟩) 1 cap] 60)) := Lib.hid (by rw [hW, hpc]; rfl)
  have HPC := Lib.hid hpc
  have HGB := Lib.hid hgB
  have HGR := Lib.hid hg
  obtain ⟨_, _, _, _, _, _, hz1⟩ := cells6A (by have := HSa.out.b1; rw [HPC.out] at this; exact this)
  have HKa := Lib.hid hka
  have HIHa : Hid (∀ X, CoAt B cb (l) X → ChC B w X → Calls Tryz.prog 88 #[.pointer (some ⟨cb, 0, none⟩), .agg (a.cells va).toArray] X fun x w' => x = .returned (.tuple #[]) ∧ CoAt B cb (l ++ comp a (l).length) w' ∧ ChC B X w') := Lib.hid (fun X hX hC => iha B cb va _ X hX (Nat.le_trans hBw hC.bel.size) (ha.kept (fun k hk _ => hC.bel.block k hk) a va) (by omega))
  have HPU1 : Hid (∀ X, CoAt B cb (l ++ comp a l.length) X → B ≤ X.heap.size → Calls Tryz.prog 119 #[.pointer (some ⟨cb, 0, none⟩), .agg (iOne op : Ins).cells.toArray] X fun x w' => x = .returned (.int .i64 ((l ++ comp a l.length).length : Nat)) ∧ CoAt B cb (l ++ comp a l.length ++ [iOne op]) w' ∧ ChC B X w') := Lib.hid (fun X hX hB => cput_any B cb _ _ X hX hB (by rw [List.length_append]; omega))
  have thn0 := tl_no hn0
  have thn1 := tl_no hn1
  have thn2 := tl_no hn2
  have thn3 := tl_no hn3
  have thn4 := tl_no hn4
  clear h hlen hpc hW hr hr' ha hka hcl hla iha hgB hg hcap hn0 hn1 hn2 hn3 hn4
  have d0 : W.cell? ⟨w.heap.size, 0, none⟩ = some (.pointer (some ⟨cb, 0, none⟩)) := (Lib.cell_of_heap HSa.out.b0 0).trans rfl
  have hb1 := HSa.out.b1
  rw [HPC.out] at hb1
  obtain ⟨c0, c1, c2, c3, c4, c5, _⟩ := cells6A hb1
  clear hb1
  show Calls Tryz.prog 88 #[.pointer (some ⟨cb, 0, none⟩), .agg #[.string op, .int .i64 0, .string ⟨#[]⟩, .int .i64 p, .int .i64 0, .slice (some ⟨g, 0, none⟩) 1 cap]] w _
  go_enter Tryz.func88, Tryz.ntmps88
  go_upto_region 4 with fail
  rw [← HWE.out]
  go_wp2_with fail
  refine Reg.wp_region_sto (fun L u X => PtS B cb w.heap.size (w.heap.size + 1) w W #[.pointer (some ⟨cb, 0, none⟩)] 180 pc (if L 5 = true then l ++ comp a (l).length else l) X) (fun j => ([some (.pointer (some ⟨cb, 0, none⟩)), some (.pointer (some ⟨w.heap.size + 1, 5, none⟩)), some (.slice (some ⟨g, 0, none⟩) 1 cap), some (.pointer (some ⟨g, 0, none⟩)), some (.agg (a.cells va).toArray), some (.tuple #[])] : List (Option Value)).getD j none) (by kernel_rfl) (by kernel_rfl) (by kernel_rfl) (by kernel_rfl) ?rs0 ?rsE ?rsZ
  case rs0 => exact HSa.out.drew hBw
  case rsE =>
    refine Reg.EachG.plain rfl (fun L u T X hL hz hS hk K hK => ?_) ?_
    · skip
      have g2 : T[2]? = some (.pointer (some ⟨w.heap.size, 0, none⟩)) := hk.old 2 (by kernel_rfl) rfl
      have c0 := (Lib.cell_of_heap hS.b0 0).trans rfl
      have hK := hK _ X hS (fun _ hx => Option.some.inj hx)
      clear hk hz hL
      go_simp
      exact hK
    refine Reg.EachG.plain rfl (fun L u T X hL hz hS hk K hK => ?_) ?_
    · skip
      have g3 : T[3]? = some (.pointer (some ⟨w.heap.size + 1, 0, none⟩)) := hk.old 3 (by kernel_rfl) rfl
      have hK := hK _ X hS (fun _ hx => Option.some.inj hx)
      clear hk hz hL
      go_simp
      exact hK
    refine Reg.EachG.plain rfl (fun L u T X hL hz hS hk K hK => ?_) ?_
    · skip
      have g92 : T[92]? = some (.pointer (some ⟨w.heap.size + 1, 5, none⟩)) := hk.val 1 92 (by kernel_rfl) (by kernel_rfl) rfl
      have hb1 := hS.b1
      rw [HPC.out] at hb1
      obtain ⟨_, _, _, _, _, c5, _⟩ := cells6A hb1
      have hK := hK _ X hS (fun _ hx => Option.some.inj hx)
      clear hk hz hL hb1
      go_simp
      exact hK
    refine Reg.EachG.plain rfl (fun L u T X hL hz hS hk K hK => ?_) ?_
    · skip
      have g93 : T[93]? = some (.slice (some ⟨g, 0, none⟩) 1 cap) := hk.val 2 93 (by kernel_rfl) (by kernel_rfl) rfl
      have hK := hK _ X hS (fun _ hx => Option.some.inj hx)
      clear hk hz hL
      go_simp
      exact hK
    refine Reg.EachG.plain rfl (fun L u T X hL hz hS hk K hK => ?_) ?_
    · skip
      have g94 : T[94]? = some (.pointer (some ⟨g, 0, none⟩)) := hk.val 3 94 (by kernel_rfl) (by kernel_rfl) rfl
      refine wp_load_part 60 _ rfl g 0 (by simp [Act.eval, g94]) _ cur (a.cells va) (0, 0) _ ((hS.ch.bel.block g HGB.out).trans HGR.out) (HKa.out) Tryz.underlying60 rfl (by rw [Tr.cells_len]; exact arith_size) ?_
      exact hK _ X hS (fun _ hx => Option.some.inj hx)
    refine Reg.EachG.plain rfl (fun L u T X hL hz hS hk K hK => ?_) ?_
    · skip
      have g91 : T[91]? = some (.pointer (some ⟨cb, 0, none⟩)) := hk.val 0 91 (by kernel_rfl) (by kernel_rfl) rfl
      have g95 : T[95]? = some (.agg (a.cells va).toArray) := hk.val 4 95 (by kernel_rfl) (by kernel_rfl) rfl
      have hco := hS.co
      rw [hL, if_neg (by decide)] at hco
      have hC := HIHa.out X hco hS.ch
      clear hk hz
      go_simp
      refine hC.mono ?_
      rintro x w' ⟨rfl, hg', hc'⟩
      refine hK _ w' ?_ (fun _ hx => Option.some.inj hx)
      rw [Reg.upd_same, if_pos rfl]
      rw [hL, if_neg (by decide)] at hS
      exact hS.step hg' hc' (by decide) (by decide)
    exact Reg.EachG.nil
  case rsZ =>
    intro L u w1 hL hS hI
    have e0 : u 0 = .pointer (some ⟨cb, 0, none⟩) := hI 0 (by decide) _ rfl
    have e1 : u 1 = .pointer (some ⟨w.heap.size + 1, 5, none⟩) := hI 1 (by decide) _ rfl
    have e2 : u 2 = .slice (some ⟨g, 0, none⟩) 1 cap := hI 2 (by decide) _ rfl
    have e3 : u 3 = .pointer (some ⟨g, 0, none⟩) := hI 3 (by decide) _ rfl
    have e4 : u 4 = .agg (a.cells va).toArray := hI 4 (by decide) _ rfl
    have e5 : u 5 = .tuple #[] := hI 5 (by decide) _ rfl
    clear hI
    simp only [Reg.putAll, Act.put, List.setIfInBounds_toArray, List.set_cons_succ, List.set_cons_zero, Nat.zero_add, Nat.reduceAdd, e0, e1, e2, e3, e4, e5]
    clear e0 e1 e2 e3 e4 e5
    have hL5 := hL 5 (by decide)
    rw [hL5, if_pos rfl] at hS
    have HS1 := Lib.hid hS
    clear hS hL5 hL u L
    have d0 : w1.cell? ⟨w.heap.size, 0, none⟩ = some (.pointer (some ⟨cb, 0, none⟩)) := (Lib.cell_of_heap HS1.out.b0 0).trans rfl
    have hb1 := HS1.out.b1
    rw [HPC.out] at hb1
    obtain ⟨c0, c1, c2, c3, c4, c5, _⟩ := cells6A hb1
    clear hb1
    go_wp2_with fail
    refine (HPU1.out w1 HS1.out.co (Nat.le_trans hBw HS1.out.ch.bel.size)).mono ?_
    rintro x w2 ⟨rfl, hg1, hc1⟩
    have HG1 := Lib.hid hg1
    have HC1 := Lib.hid (HS1.out.ch.trans hc1)
    clear hg1 hc1
    go_wp2_with fail
    go_end0
    exact ⟨rfl, by have := HG1.out; rw [List.append_assoc] at this; exact this, HC1.out⟩
set_option maxRecDepth 100000 in
set_option maxHeartbeats 8000000 in
theorem part_bin (op : ByteArray) (p : Nat) (a b : Tr) (iha : PartC a) (ihb : PartC b) (hn0 : ¬ op = ⟨#[110, 117, 109]⟩) (hn1 : ¬ op = ⟨#[110, 97, 109, 101]⟩) (hn2 : ¬ op = ⟨#[63]⟩) (hn3 : ¬ op = ⟨#[38, 38]⟩) (hn4 : ¬ op = ⟨#[124, 124]⟩) : PartC (.bin op p a b) := by
  intro B cb kv l w h hBw hlay hlen
  obtain ⟨va, vb, hr, ha, hb⟩ := hlay
  have hr' : RowOf w (fun k => k < B) kv 2 (rowK (k2 a b) (v2 va vb) 2) := by rw [rowK_2]; exact hr
  obtain ⟨g, cap, cur, rfl, hcap, hgB, hg, hcl⟩ := hr'.kid
  have hka : ∀ j u, (a.cells va)[j]? = some u → cur[0 + j]? = some u := hcl 0 (by omega)
  have hkb : ∀ j u, (b.cells vb)[j]? = some u → cur[6 + j]? = some u := hcl 1 (by omega)
  obtain ⟨pc, hpc⟩ : ∃ pc : Array Value, pc = #[.string op, .int .i64 0, .string ⟨#[]⟩, .int .i64 p, .int .i64 0, .slice (some ⟨g, 0, none⟩) 2 cap] := ⟨_, rfl⟩
  have hco : ∀ k, comp (.bin op p a b) k = comp a k ++ (comp b (k + (comp a k).length) ++ [iTwo op p]) := fun k => by simp only [comp]; rw [if_neg (show ¬ op = sAnd2 from hn3), if_neg (show ¬ op = sOr2 from hn4)]
  have hcl : (comp (.bin op p a b) 0).length = (comp a 0).length + (comp b 0).length + 1 := by rw [hco]; simp only [List.length_append, List.length_singleton]; rw [comp_len b _ 0]; omega
  have hla : (comp a l.length).length = (comp a 0).length := comp_len _ _ _
  have hlb : (comp b (l ++ comp a l.length).length).length = (comp b 0).length := comp_len _ _ _
  have hsum : ((l ++ comp a l.length) ++ comp b (l ++ comp a l.length).length).length = l.length + (comp a 0).length + (comp b 0).length := by rw [List.length_append, hlb, List.length_append, hla]
  rw [hcl] at hlen
  rw [hco]
  obtain ⟨W, hW⟩ : ∃ W, W = box2 w cb pc := ⟨_, rfl⟩
  have HSa : Hid (PtS B cb w.heap.size (w.heap.size + 1) w W #[.pointer (some ⟨cb, 0, none⟩)] 180 pc l W) := Lib.hid (by rw [hW]; exact box2_pts h hBw pc)
  have HWE : Hid (W = (w.alloc (.cells #[.pointer (some ⟨cb, 0, none⟩)] 180)).alloc (.cells #[.string op, .int .i64 0, .string ⟨#[]⟩, .int .i64 p, .int .i64 0, .slice (some ⟨g, 0, none⟩) 2 cap] 60)) := Lib.hid (by rw [hW, hpc]; rfl)
  have HPC := Lib.hid hpc
  have HGB := Lib.hid hgB
  have HGR := Lib.hid hg
  obtain ⟨_, _, _, _, _, _, hz1⟩ := cells6A (by have := HSa.out.b1; rw [HPC.out] at this; exact this)
  have HKa := Lib.hid hka
  have HIHa : Hid (∀ X, CoAt B cb (l) X → ChC B w X → Calls Tryz.prog 88 #[.pointer (some ⟨cb, 0, none⟩), .agg (a.cells va).toArray] X fun x w' => x = .returned (.tuple #[]) ∧ CoAt B cb (l ++ comp a (l).length) w' ∧ ChC B X w') := Lib.hid (fun X hX hC => iha B cb va _ X hX (Nat.le_trans hBw hC.bel.size) (ha.kept (fun k hk _ => hC.bel.block k hk) a va) (by omega))
  have HKb := Lib.hid hkb
  have HIHb : Hid (∀ X, CoAt B cb (l ++ comp a l.length) X → ChC B w X → Calls Tryz.prog 88 #[.pointer (some ⟨cb, 0, none⟩), .agg (b.cells vb).toArray] X fun x w' => x = .returned (.tuple #[]) ∧ CoAt B cb (l ++ comp a l.length ++ comp b (l ++ comp a l.length).length) w' ∧ ChC B X w') := Lib.hid (fun X hX hC => ihb B cb vb _ X hX (Nat.le_trans hBw hC.bel.size) (hb.kept (fun k hk _ => hC.bel.block k hk) b vb) (by rw [List.length_append]; omega))
  have HPU1 : Hid (∀ X, CoAt B cb ((l ++ comp a l.length) ++ comp b (l ++ comp a l.length).length) X → B ≤ X.heap.size → Calls Tryz.prog 119 #[.pointer (some ⟨cb, 0, none⟩), .agg (iTwo op p : Ins).cells.toArray] X fun x w' => x = .returned (.int .i64 (((l ++ comp a l.length) ++ comp b (l ++ comp a l.length).length).length : Nat)) ∧ CoAt B cb ((l ++ comp a l.length) ++ comp b (l ++ comp a l.length).length ++ [iTwo op p]) w' ∧ ChC B X w') := Lib.hid (fun X hX hB => cput_any B cb _ _ X hX hB (by rw [hsum]; omega))
  have thn0 := tl_no hn0
  have thn1 := tl_no hn1
  have thn2 := tl_no hn2
  have thn3 := tl_no hn3
  have thn4 := tl_no hn4
  clear h hlen hpc hW hr hr' ha hb hka hkb hcl hla hlb hsum hco iha ihb hgB hg hcap hn0 hn1 hn2 hn3 hn4
  have d0 : W.cell? ⟨w.heap.size, 0, none⟩ = some (.pointer (some ⟨cb, 0, none⟩)) := (Lib.cell_of_heap HSa.out.b0 0).trans rfl
  have hb1 := HSa.out.b1
  rw [HPC.out] at hb1
  obtain ⟨c0, c1, c2, c3, c4, c5, _⟩ := cells6A hb1
  clear hb1
  show Calls Tryz.prog 88 #[.pointer (some ⟨cb, 0, none⟩), .agg #[.string op, .int .i64 0, .string ⟨#[]⟩, .int .i64 p, .int .i64 0, .slice (some ⟨g, 0, none⟩) 2 cap]] w _
  go_enter Tryz.func88, Tryz.ntmps88
  go_upto_region 4 with fail
  rw [← HWE.out]
  go_wp2_with fail
  refine Reg.wp_region_sto (fun L u X => PtS B cb w.heap.size (w.heap.size + 1) w W #[.pointer (some ⟨cb, 0, none⟩)] 180 pc (if L 5 = true then l ++ comp a (l).length else l) X) (fun j => ([some (.pointer (some ⟨cb, 0, none⟩)), some (.pointer (some ⟨w.heap.size + 1, 5, none⟩)), some (.slice (some ⟨g, 0, none⟩) 2 cap), some (.pointer (some ⟨g, 0, none⟩)), some (.agg (a.cells va).toArray), some (.tuple #[])] : List (Option Value)).getD j none) (by kernel_rfl) (by kernel_rfl) (by kernel_rfl) (by kernel_rfl) ?rs0 ?rsE ?rsZ
  case rs0 => exact HSa.out.drew hBw
  case rsE =>
    refine Reg.EachG.plain rfl (fun L u T X hL hz hS hk K hK => ?_) ?_
    · skip
      have g2 : T[2]? = some (.pointer (some ⟨w.heap.size, 0, none⟩)) := hk.old 2 (by kernel_rfl) rfl
      have c0 := (Lib.cell_of_heap hS.b0 0).trans rfl
      have hK := hK _ X hS (fun _ hx => Option.some.inj hx)
      clear hk hz hL
      go_simp
      exact hK
    refine Reg.EachG.plain rfl (fun L u T X hL hz hS hk K hK => ?_) ?_
    · skip
      have g3 : T[3]? = some (.pointer (some ⟨w.heap.size + 1, 0, none⟩)) := hk.old 3 (by kernel_rfl) rfl
      have hK := hK _ X hS (fun _ hx => Option.some.inj hx)
      clear hk hz hL
      go_simp
      exact hK
    refine Reg.EachG.plain rfl (fun L u T X hL hz hS hk K hK => ?_) ?_
    · skip
      have g5 : T[5]? = some (.pointer (some ⟨w.heap.size + 1, 5, none⟩)) := hk.val 1 5 (by kernel_rfl) (by kernel_rfl) rfl
      have hb1 := hS.b1
      rw [HPC.out] at hb1
      obtain ⟨_, _, _, _, _, c5, _⟩ := cells6A hb1
      have hK := hK _ X hS (fun _ hx => Option.some.inj hx)
      clear hk hz hL hb1
      go_simp
      exact hK
    refine Reg.EachG.plain rfl (fun L u T X hL hz hS hk K hK => ?_) ?_
    · skip
      have g6 : T[6]? = some (.slice (some ⟨g, 0, none⟩) 2 cap) := hk.val 2 6 (by kernel_rfl) (by kernel_rfl) rfl
      have hK := hK _ X hS (fun _ hx => Option.some.inj hx)
      clear hk hz hL
      go_simp
      exact hK
    refine Reg.EachG.plain rfl (fun L u T X hL hz hS hk K hK => ?_) ?_
    · skip
      have g7 : T[7]? = some (.pointer (some ⟨g, 0, none⟩)) := hk.val 3 7 (by kernel_rfl) (by kernel_rfl) rfl
      refine wp_load_part 60 _ rfl g 0 (by simp [Act.eval, g7]) _ cur (a.cells va) (0, 0) _ ((hS.ch.bel.block g HGB.out).trans HGR.out) (HKa.out) Tryz.underlying60 rfl (by rw [Tr.cells_len]; exact arith_size) ?_
      exact hK _ X hS (fun _ hx => Option.some.inj hx)
    refine Reg.EachG.plain rfl (fun L u T X hL hz hS hk K hK => ?_) ?_
    · skip
      have g4 : T[4]? = some (.pointer (some ⟨cb, 0, none⟩)) := hk.val 0 4 (by kernel_rfl) (by kernel_rfl) rfl
      have g8 : T[8]? = some (.agg (a.cells va).toArray) := hk.val 4 8 (by kernel_rfl) (by kernel_rfl) rfl
      have hco := hS.co
      rw [hL, if_neg (by decide)] at hco
      have hC := HIHa.out X hco hS.ch
      clear hk hz
      go_simp
      refine hC.mono ?_
      rintro x w' ⟨rfl, hg', hc'⟩
      refine hK _ w' ?_ (fun _ hx => Option.some.inj hx)
      rw [Reg.upd_same, if_pos rfl]
      rw [hL, if_neg (by decide)] at hS
      exact hS.step hg' hc' (by decide) (by decide)
    exact Reg.EachG.nil
  case rsZ =>
    intro L u w1 hL hS hI
    have e0 : u 0 = .pointer (some ⟨cb, 0, none⟩) := hI 0 (by decide) _ rfl
    have e1 : u 1 = .pointer (some ⟨w.heap.size + 1, 5, none⟩) := hI 1 (by decide) _ rfl
    have e2 : u 2 = .slice (some ⟨g, 0, none⟩) 2 cap := hI 2 (by decide) _ rfl
    have e3 : u 3 = .pointer (some ⟨g, 0, none⟩) := hI 3 (by decide) _ rfl
    have e4 : u 4 = .agg (a.cells va).toArray := hI 4 (by decide) _ rfl
    have e5 : u 5 = .tuple #[] := hI 5 (by decide) _ rfl
    clear hI
    simp only [Reg.putAll, Act.put, List.setIfInBounds_toArray, List.set_cons_succ, List.set_cons_zero, Nat.zero_add, Nat.reduceAdd, e0, e1, e2, e3, e4, e5]
    clear e0 e1 e2 e3 e4 e5
    have hL5 := hL 5 (by decide)
    rw [hL5, if_pos rfl] at hS
    have HSb := Lib.hid hS
    clear hS hL5 hL u L
    have d0 : w1.cell? ⟨w.heap.size, 0, none⟩ = some (.pointer (some ⟨cb, 0, none⟩)) := (Lib.cell_of_heap HSb.out.b0 0).trans rfl
    have hb1 := HSb.out.b1
    rw [HPC.out] at hb1
    obtain ⟨c0, c1, c2, c3, c4, c5, _⟩ := cells6A hb1
    clear hb1
    go_wp2_with fail
    refine Reg.wp_region_sto (fun L u X => PtS B cb w.heap.size (w.heap.size + 1) w W #[.pointer (some ⟨cb, 0, none⟩)] 180 pc (if L 5 = true then l ++ comp a l.length ++ comp b (l ++ comp a l.length).length else l ++ comp a l.length) X) (fun j => ([some (.pointer (some ⟨cb, 0, none⟩)), some (.pointer (some ⟨w.heap.size + 1, 5, none⟩)), some (.slice (some ⟨g, 0, none⟩) 2 cap), some (.pointer (some ⟨g, 6, none⟩)), some (.agg (b.cells vb).toArray), some (.tuple #[])] : List (Option Value)).getD j none) (by kernel_rfl) (by kernel_rfl) (by kernel_rfl) (by kernel_rfl) ?rs0 ?rsE ?rsZ
    case rs0 => exact HSb.out.drew hBw
    case rsE =>
      refine Reg.EachG.plain rfl (fun L u T X hL hz hS hk K hK => ?_) ?_
      · skip
        have g2 : T[2]? = some (.pointer (some ⟨w.heap.size, 0, none⟩)) := hk.old 2 (by kernel_rfl) rfl
        have c0 := (Lib.cell_of_heap hS.b0 0).trans rfl
        have hK := hK _ X hS (fun _ hx => Option.some.inj hx)
        clear hk hz hL
        go_simp
        exact hK
      refine Reg.EachG.plain rfl (fun L u T X hL hz hS hk K hK => ?_) ?_
      · skip
        have g3 : T[3]? = some (.pointer (some ⟨w.heap.size + 1, 0, none⟩)) := hk.old 3 (by kernel_rfl) rfl
        have hK := hK _ X hS (fun _ hx => Option.some.inj hx)
        clear hk hz hL
        go_simp
        exact hK
      refine Reg.EachG.plain rfl (fun L u T X hL hz hS hk K hK => ?_) ?_
      · skip
        have g11 : T[11]? = some (.pointer (some ⟨w.heap.size + 1, 5, none⟩)) := hk.val 1 11 (by kernel_rfl) (by kernel_rfl) rfl
        have hb1 := hS.b1
        rw [HPC.out] at hb1
        obtain ⟨_, _, _, _, _, c5, _⟩ := cells6A hb1
        have hK := hK _ X hS (fun _ hx => Option.some.inj hx)
        clear hk hz hL hb1
        go_simp
        exact hK
      refine Reg.EachG.plain rfl (fun L u T X hL hz hS hk K hK => ?_) ?_
      · skip
        have g12 : T[12]? = some (.slice (some ⟨g, 0, none⟩) 2 cap) := hk.val 2 12 (by kernel_rfl) (by kernel_rfl) rfl
        have hK := hK _ X hS (fun _ hx => Option.some.inj hx)
        clear hk hz hL
        go_simp
        exact hK
      refine Reg.EachG.plain rfl (fun L u T X hL hz hS hk K hK => ?_) ?_
      · skip
        have g13 : T[13]? = some (.pointer (some ⟨g, 6, none⟩)) := hk.val 3 13 (by kernel_rfl) (by kernel_rfl) rfl
        refine wp_load_part 60 _ rfl g 6 (by simp [Act.eval, g13]) _ cur (b.cells vb) (0, 0) _ ((hS.ch.bel.block g HGB.out).trans HGR.out) (HKb.out) Tryz.underlying60 rfl (by rw [Tr.cells_len]; exact arith_size) ?_
        exact hK _ X hS (fun _ hx => Option.some.inj hx)
      refine Reg.EachG.plain rfl (fun L u T X hL hz hS hk K hK => ?_) ?_
      · skip
        have g10 : T[10]? = some (.pointer (some ⟨cb, 0, none⟩)) := hk.val 0 10 (by kernel_rfl) (by kernel_rfl) rfl
        have g14 : T[14]? = some (.agg (b.cells vb).toArray) := hk.val 4 14 (by kernel_rfl) (by kernel_rfl) rfl
        have hco := hS.co
        rw [hL, if_neg (by decide)] at hco
        have hC := HIHb.out X hco hS.ch
        clear hk hz
        go_simp
        refine hC.mono ?_
        rintro x w' ⟨rfl, hg', hc'⟩
        refine hK _ w' ?_ (fun _ hx => Option.some.inj hx)
        rw [Reg.upd_same, if_pos rfl]
        rw [hL, if_neg (by decide)] at hS
        exact hS.step hg' hc' (by decide) (by decide)
      exact Reg.EachG.nil
    case rsZ =>
      intro L u w2 hL hS hI
      have e0 : u 0 = .pointer (some ⟨cb, 0, none⟩) := hI 0 (by decide) _ rfl
      have e1 : u 1 = .pointer (some ⟨w.heap.size + 1, 5, none⟩) := hI 1 (by decide) _ rfl
      have e2 : u 2 = .slice (some ⟨g, 0, none⟩) 2 cap := hI 2 (by decide) _ rfl
      have e3 : u 3 = .pointer (some ⟨g, 6, none⟩) := hI 3 (by decide) _ rfl
      have e4 : u 4 = .agg (b.cells vb).toArray := hI 4 (by decide) _ rfl
      have e5 : u 5 = .tuple #[] := hI 5 (by decide) _ rfl
      clear hI
      simp only [Reg.putAll, Act.put, List.setIfInBounds_toArray, List.set_cons_succ, List.set_cons_zero, Nat.zero_add, Nat.reduceAdd, e0, e1, e2, e3, e4, e5]
      clear e0 e1 e2 e3 e4 e5
      have hL5 := hL 5 (by decide)
      rw [hL5, if_pos rfl] at hS
      have HS2 := Lib.hid hS
      clear hS hL5 hL u L
      have d0 : w2.cell? ⟨w.heap.size, 0, none⟩ = some (.pointer (some ⟨cb, 0, none⟩)) := (Lib.cell_of_heap HS2.out.b0 0).trans rfl
      have hb1 := HS2.out.b1
      rw [HPC.out] at hb1
      obtain ⟨c0, c1, c2, c3, c4, c5, _⟩ := cells6A hb1
      clear hb1
      go_wp2_with fail
      refine (HPU1.out w2 HS2.out.co (Nat.le_trans hBw HS2.out.ch.bel.size)).mono ?_
      rintro x w3 ⟨rfl, hg1, hc1⟩
      have HG1 := Lib.hid hg1
      have HC1 := Lib.hid (HS2.out.ch.trans hc1)
      clear hg1 hc1
      go_wp2_with fail
      go_end0
      exact ⟨rfl, by have := HG1.out; rw [List.append_assoc, List.append_assoc, List.length_append] at this; exact this, HC1.out⟩
end Go.Proofs.YthpmkpnndbjflaaGreatDoor
