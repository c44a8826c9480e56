/- truth, number, part's closures; part of ?, && and ||; of any tree (gen_acpb.py). -/
import Derived.Test.YthpmkpnndbjflaaGreatDoorAcBr
import Derived.Test.YthpmkpnndbjflaaGreatDoorAcAs
import Derived.Shelf.Abstract
namespace Go.Proofs.YthpmkpnndbjflaaGreatDoor
open Go.RowKit

set_option maxRecDepth 100000 in
set_option maxHeartbeats 8000000 in
theorem cnumber_any (B cb : Nat) (l : List Ins) (n : Int) (w : World) (h : CoAt B cb l w) (hBw : B ≤ w.heap.size) (hlen : l.length ≤ 1000000) :
    Calls Tryz.prog 127 #[.pointer (some ⟨cb, 0, none⟩), .int .i64 n] w fun x w' => x = .returned (.tuple #[]) ∧ CoAt B cb (l ++ [iPush n]) w' ∧ ChC B w w' := by
  have HPU := Lib.hid (cput_any B cb l (iPush n) w h hBw (by omega))
  clear h
  go_enter Tryz.func127, Tryz.ntmps127
  go_wp2_with fail
  refine HPU.out.mono ?_
  rintro x w1 ⟨rfl, hg1, hc1⟩
  have HG := Lib.hid hg1
  have HC := Lib.hid hc1
  clear hg1 hc1
  go_wp2_with fail
  go_end0
  exact ⟨rfl, HG.out, HC.out⟩

set_option maxRecDepth 100000 in
set_option maxHeartbeats 8000000 in
theorem truth_any (t : Tr) (iht : PartC t) (B cb : Nat) (kv : Value) (l : List Ins) (w : World) (h : CoAt B cb l w) (hBw : B ≤ w.heap.size) (hlay : t.Lay w (fun k => k < B) kv) (hlen : l.length + (comp t 0).length ≤ 1000000) :
    Calls Tryz.prog 125 #[.pointer (some ⟨cb, 0, none⟩), t.v kv] w fun x w' => x = .returned (.tuple #[]) ∧ CoAt B cb (l ++ (comp t l.length ++ [iOne sTruth])) w' ∧ ChC B w w' := by
  obtain ⟨ko, km, kc, rfl⟩ := hlay.shape
  obtain ⟨pc, hpc⟩ : ∃ pc : Array Value, pc = #[.string t.op, .int .i64 t.val, .string t.nm, .int .i64 t.pos, .int .i64 t.apos, .slice ko km kc] := ⟨_, rfl⟩
  obtain ⟨W, hW⟩ : ∃ W, W = w.alloc (.cells pc 60) := ⟨_, rfl⟩
  have HS0 : Hid (PtS B cb w.heap.size w.heap.size w W pc 60 pc l W) := Lib.hid (by rw [hW]; exact box1_pts h hBw pc)
  have HWE : Hid (W = w.alloc (.cells #[.string t.op, .int .i64 t.val, .string t.nm, .int .i64 t.pos, .int .i64 t.apos, .slice ko km kc] 60)) := Lib.hid (by rw [hW, hpc])
  have HPC := Lib.hid hpc
  have hla : (comp t l.length).length = (comp t 0).length := comp_len _ _ _
  have HIH : Hid (∀ X, CoAt B cb l X → ChC B w X → Calls Tryz.prog 88 #[.pointer (some ⟨cb, 0, none⟩), t.v (.slice ko km kc)] X fun x w' => x = .returned (.tuple #[]) ∧ CoAt B cb (l ++ comp t l.length) w' ∧ ChC B X w') := Lib.hid (fun X hX hC => iht B cb _ _ X hX (Nat.le_trans hBw hC.bel.size) (hlay.kept (fun k hk _ => hC.bel.block k hk) t _) hlen)
  have HPU : Hid (∀ X, CoAt B cb (l ++ comp t l.length) X → B ≤ X.heap.size → Calls Tryz.prog 119 #[.pointer (some ⟨cb, 0, none⟩), .agg (iOne sTruth : Ins).cells.toArray] X fun x w' => x = .returned (.int .i64 ((l ++ comp t l.length).length : Nat)) ∧ CoAt B cb ((l ++ comp t l.length) ++ [iOne sTruth]) w' ∧ ChC B X w') := Lib.hid (fun X hX hB => cput_any B cb _ _ X hX hB (by rw [List.length_append, hla]; omega))
  clear h hlay hlen iht hpc hW hla
  have hb1 := HS0.out.b1
  rw [HPC.out] at hb1
  obtain ⟨c0, c1, c2, c3, c4, c5, hz1⟩ := cells6A hb1
  clear hb1
  unfold Tr.v at HIH ⊢
  go_enter Tryz.func125, Tryz.ntmps125
  go_upto_region 1 with fail
  rw [← HWE.out]
  go_wp2_with fail
  refine (HIH.out _ HS0.out.co HS0.out.ch).mono ?_
  rintro x w1 ⟨rfl, hg1, hc1⟩
  have HS1 := Lib.hid (HS0.out.step hg1 hc1 (by decide) (by decide))
  clear hg1 hc1 c0 c1 c2 c3 c4 c5 hz1
  go_wp2_with fail
  refine (HPU.out _ HS1.out.co (Nat.le_trans hBw HS1.out.ch.bel.size)).mono ?_
  rintro x w2 ⟨rfl, hg1, hc1⟩
  have HS2 := Lib.hid (HS1.out.step hg1 hc1 (by decide) (by decide))
  clear hg1 hc1
  go_wp2_with fail
  go_end0
  exact ⟨rfl, by have := HS2.out.co; rwa [List.append_assoc] at this, HS2.out.ch⟩

set_option maxRecDepth 100000 in
set_option maxHeartbeats 8000000 in
theorem clo_one (op : ByteArray) (p g cap : Nat) (pc cur : Array Value) (k : Tr) (vk : Value) (ihk : PartC k) (B cb x0 x1 : Nat) (m : List Ins) (w : World) (h : CoAt B cb m w) (hBw : B ≤ w.heap.size) (hb0 : w.heap[x0]? = some (.cells #[.pointer (some ⟨cb, 0, none⟩)] 180 (0, 0))) (hb1 : w.heap[x1]? = some (.cells pc 60 (0, 0)))
    (hpc : pc = #[.string op, .int .i64 0, .string ⟨#[]⟩, .int .i64 p, .int .i64 0, .slice (some ⟨g, 0, none⟩) 3 cap]) (hgB : g < B) (hg : w.heap[g]? = some (.cells cur 60 (0, 0))) (hk : ∀ j u, (k.cells vk)[j]? = some u → cur[6 + j]? = some u) (hlay : k.Lay w (fun k => k < B) vk) (hlen : m.length + (comp k 0).length ≤ 1000000) :
    Calls Tryz.prog 122 #[.pointer (some ⟨x0, 0, none⟩), .pointer (some ⟨x1, 0, none⟩)] w fun x w' => x = .returned (.tuple #[]) ∧ CoAt B cb (m ++ comp k m.length) w' ∧ ChC B w w' := by
  have HS0 : Hid (PtS B cb x0 x1 w w #[.pointer (some ⟨cb, 0, none⟩)] 180 pc m w) := Lib.hid ⟨h, ChC.refl B w, Nat.le_refl _, hb0, hb1⟩
  have HPC := Lib.hid hpc
  have HGB := Lib.hid hgB
  have HGR := Lib.hid hg
  have HKk := Lib.hid hk
  have HIH : Hid (∀ X, CoAt B cb m X → ChC B w X → Calls Tryz.prog 88 #[.pointer (some ⟨cb, 0, none⟩), .agg (k.cells vk).toArray] X fun x w' => x = .returned (.tuple #[]) ∧ CoAt B cb (m ++ comp k m.length) w' ∧ ChC B X w') := Lib.hid (fun X hX hC => ihk B cb vk _ X hX (Nat.le_trans hBw hC.bel.size) (hlay.kept (fun k hk _ => hC.bel.block k hk) k vk) hlen)
  have hz0 := lt_blkA hb0
  have hz1 := lt_blkA hb1
  clear h hb0 hb1 hpc hgB hg hk hlay hlen ihk
  go_enter Tryz.func122, Tryz.ntmps122
  refine Reg.wp_region_sto (fun L u X => PtS B cb x0 x1 w w #[.pointer (some ⟨cb, 0, none⟩)] 180 pc (if L 5 = true then m ++ comp k m.length else m) X) (fun j => ([some (.pointer (some ⟨cb, 0, none⟩)), some (.pointer (some ⟨x1, 5, none⟩)), some (.slice (some ⟨g, 0, none⟩) 3 cap), some (.pointer (some ⟨g, 6, none⟩)), some (.agg (k.cells vk).toArray), some (.tuple #[])] : List (Option Value)).getD j none) (by kernel_rfl) (by kernel_rfl) (by kernel_rfl) (by kernel_rfl) ?rs0 ?rsE ?rsZ
  case rs0 => exact HS0.out.drew hBw
  case rsE =>
    refine Reg.EachG.plain rfl (fun L u T X hL hz hS hk K hK => ?_) ?_
    · skip
      have g0 : T[0]? = some (.pointer (some ⟨x0, 0, none⟩)) := hk.old 0 (by kernel_rfl) rfl
      have c0 := (Lib.cell_of_heap hS.b0 0).trans rfl
      have hK := hK _ X hS (fun _ hx => Option.some.inj hx)
      clear hk hz hL
      go_simp
      exact hK
    refine Reg.EachG.plain rfl (fun L u T X hL hz hS hk K hK => ?_) ?_
    · skip
      have g1 : T[1]? = some (.pointer (some ⟨x1, 0, none⟩)) := hk.old 1 (by kernel_rfl) rfl
      have hK := hK _ X hS (fun _ hx => Option.some.inj hx)
      clear hk hz hL
      go_simp
      exact hK
    refine Reg.EachG.plain rfl (fun L u T X hL hz hS hk K hK => ?_) ?_
    · skip
      have g3 : T[3]? = some (.pointer (some ⟨x1, 5, none⟩)) := hk.val 1 3 (by kernel_rfl) (by kernel_rfl) rfl
      have hb1 := hS.b1
      rw [HPC.out] at hb1
      obtain ⟨_, _, _, _, _, c5, _⟩ := cells6A hb1
      have hK := hK _ X hS (fun _ hx => Option.some.inj hx)
      clear hk hz hL hb1
      go_simp
      exact hK
    refine Reg.EachG.plain rfl (fun L u T X hL hz hS hk K hK => ?_) ?_
    · skip
      have g4 : T[4]? = some (.slice (some ⟨g, 0, none⟩) 3 cap) := hk.val 2 4 (by kernel_rfl) (by kernel_rfl) rfl
      have hK := hK _ X hS (fun _ hx => Option.some.inj hx)
      clear hk hz hL
      go_simp
      exact hK
    refine Reg.EachG.plain rfl (fun L u T X hL hz hS hk K hK => ?_) ?_
    · skip
      have g5 : T[5]? = some (.pointer (some ⟨g, 6, none⟩)) := hk.val 3 5 (by kernel_rfl) (by kernel_rfl) rfl
      refine wp_load_part 60 _ rfl g 6 (by simp [Act.eval, g5]) _ cur (k.cells vk) (0, 0) _ ((hS.ch.bel.block g HGB.out).trans HGR.out) (HKk.out) Tryz.underlying60 rfl (by rw [Tr.cells_len]; exact arith_size) ?_
      exact hK _ X hS (fun _ hx => Option.some.inj hx)
    refine Reg.EachG.plain rfl (fun L u T X hL hz hS hk K hK => ?_) ?_
    · skip
      have g2 : T[2]? = some (.pointer (some ⟨cb, 0, none⟩)) := hk.val 0 2 (by kernel_rfl) (by kernel_rfl) rfl
      have g6 : T[6]? = some (.agg (k.cells vk).toArray) := hk.val 4 6 (by kernel_rfl) (by kernel_rfl) rfl
      have hco := hS.co
      rw [hL, if_neg (by decide)] at hco
      have hC := HIH.out X hco hS.ch
      clear hk hz
      go_simp
      refine hC.mono ?_
      rintro x w' ⟨rfl, hg', hc'⟩
      refine hK _ w' ?_ (fun _ hx => Option.some.inj hx)
      rw [Reg.upd_same, if_pos rfl]
      rw [hL, if_neg (by decide)] at hS
      exact hS.step hg' hc' (by decide) (by decide)
    exact Reg.EachG.nil
  case rsZ =>
    intro L u w1 hL hS hI
    have e0 : u 0 = .pointer (some ⟨cb, 0, none⟩) := hI 0 (by decide) _ rfl
    have e1 : u 1 = .pointer (some ⟨x1, 5, none⟩) := hI 1 (by decide) _ rfl
    have e2 : u 2 = .slice (some ⟨g, 0, none⟩) 3 cap := hI 2 (by decide) _ rfl
    have e3 : u 3 = .pointer (some ⟨g, 6, none⟩) := hI 3 (by decide) _ rfl
    have e4 : u 4 = .agg (k.cells vk).toArray := hI 4 (by decide) _ rfl
    have e5 : u 5 = .tuple #[] := hI 5 (by decide) _ rfl
    clear hI
    simp only [Reg.putAll, Act.put, List.setIfInBounds_toArray, List.set_cons_succ, List.set_cons_zero, Nat.zero_add, Nat.reduceAdd, e0, e1, e2, e3, e4, e5]
    clear e0 e1 e2 e3 e4 e5
    have hL5 := hL 5 (by decide)
    rw [hL5, if_pos rfl] at hS
    have HS1 := Lib.hid hS
    clear hS hL5 hL u L
    go_wp2_with fail
    go_end0
    exact ⟨rfl, HS1.out.co, HS1.out.ch⟩
set_option maxRecDepth 100000 in
set_option maxHeartbeats 8000000 in
theorem clo_two (op : ByteArray) (p g cap : Nat) (pc cur : Array Value) (k : Tr) (vk : Value) (ihk : PartC k) (B cb x0 x1 : Nat) (m : List Ins) (w : World) (h : CoAt B cb m w) (hBw : B ≤ w.heap.size) (hb0 : w.heap[x0]? = some (.cells #[.pointer (some ⟨cb, 0, none⟩)] 180 (0, 0))) (hb1 : w.heap[x1]? = some (.cells pc 60 (0, 0)))
    (hpc : pc = #[.string op, .int .i64 0, .string ⟨#[]⟩, .int .i64 p, .int .i64 0, .slice (some ⟨g, 0, none⟩) 3 cap]) (hgB : g < B) (hg : w.heap[g]? = some (.cells cur 60 (0, 0))) (hk : ∀ j u, (k.cells vk)[j]? = some u → cur[12 + j]? = some u) (hlay : k.Lay w (fun k => k < B) vk) (hlen : m.length + (comp k 0).length ≤ 1000000) :
    Calls Tryz.prog 123 #[.pointer (some ⟨x0, 0, none⟩), .pointer (some ⟨x1, 0, none⟩)] w fun x w' => x = .returned (.tuple #[]) ∧ CoAt B cb (m ++ comp k m.length) w' ∧ ChC B w w' := by
  have HS0 : Hid (PtS B cb x0 x1 w w #[.pointer (some ⟨cb, 0, none⟩)] 180 pc m w) := Lib.hid ⟨h, ChC.refl B w, Nat.le_refl _, hb0, hb1⟩
  have HPC := Lib.hid hpc
  have HGB := Lib.hid hgB
  have HGR := Lib.hid hg
  have HKk := Lib.hid hk
  have HIH : Hid (∀ X, CoAt B cb m X → ChC B w X → Calls Tryz.prog 88 #[.pointer (some ⟨cb, 0, none⟩), .agg (k.cells vk).toArray] X fun x w' => x = .returned (.tuple #[]) ∧ CoAt B cb (m ++ comp k m.length) w' ∧ ChC B X w') := Lib.hid (fun X hX hC => ihk B cb vk _ X hX (Nat.le_trans hBw hC.bel.size) (hlay.kept (fun k hk _ => hC.bel.block k hk) k vk) hlen)
  have hz0 := lt_blkA hb0
  have hz1 := lt_blkA hb1
  clear h hb0 hb1 hpc hgB hg hk hlay hlen ihk
  go_enter Tryz.func123, Tryz.ntmps123
  refine Reg.wp_region_sto (fun L u X => PtS B cb x0 x1 w w #[.pointer (some ⟨cb, 0, none⟩)] 180 pc (if L 5 = true then m ++ comp k m.length else m) X) (fun j => ([some (.pointer (some ⟨cb, 0, none⟩)), some (.pointer (some ⟨x1, 5, none⟩)), some (.slice (some ⟨g, 0, none⟩) 3 cap), some (.pointer (some ⟨g, 12, none⟩)), some (.agg (k.cells vk).toArray), some (.tuple #[])] : List (Option Value)).getD j none) (by kernel_rfl) (by kernel_rfl) (by kernel_rfl) (by kernel_rfl) ?rs0 ?rsE ?rsZ
  case rs0 => exact HS0.out.drew hBw
  case rsE =>
    refine Reg.EachG.plain rfl (fun L u T X hL hz hS hk K hK => ?_) ?_
    · skip
      have g0 : T[0]? = some (.pointer (some ⟨x0, 0, none⟩)) := hk.old 0 (by kernel_rfl) rfl
      have c0 := (Lib.cell_of_heap hS.b0 0).trans rfl
      have hK := hK _ X hS (fun _ hx => Option.some.inj hx)
      clear hk hz hL
      go_simp
      exact hK
    refine Reg.EachG.plain rfl (fun L u T X hL hz hS hk K hK => ?_) ?_
    · skip
      have g1 : T[1]? = some (.pointer (some ⟨x1, 0, none⟩)) := hk.old 1 (by kernel_rfl) rfl
      have hK := hK _ X hS (fun _ hx => Option.some.inj hx)
      clear hk hz hL
      go_simp
      exact hK
    refine Reg.EachG.plain rfl (fun L u T X hL hz hS hk K hK => ?_) ?_
    · skip
      have g3 : T[3]? = some (.pointer (some ⟨x1, 5, none⟩)) := hk.val 1 3 (by kernel_rfl) (by kernel_rfl) rfl
      have hb1 := hS.b1
      rw [HPC.out] at hb1
      obtain ⟨_, _, _, _, _, c5, _⟩ := cells6A hb1
      have hK := hK _ X hS (fun _ hx => Option.some.inj hx)
      clear hk hz hL hb1
      go_simp
      exact hK
    refine Reg.EachG.plain rfl (fun L u T X hL hz hS hk K hK => ?_) ?_
    · skip
      have g4 : T[4]? = some (.slice (some ⟨g, 0, none⟩) 3 cap) := hk.val 2 4 (by kernel_rfl) (by kernel_rfl) rfl
      have hK := hK _ X hS (fun _ hx => Option.some.inj hx)
      clear hk hz hL
      go_simp
      exact hK
    refine Reg.EachG.plain rfl (fun L u T X hL hz hS hk K hK => ?_) ?_
    · skip
      have g5 : T[5]? = some (.pointer (some ⟨g, 12, none⟩)) := hk.val 3 5 (by kernel_rfl) (by kernel_rfl) rfl
      refine wp_load_part 60 _ rfl g 12 (by simp [Act.eval, g5]) _ cur (k.cells vk) (0, 0) _ ((hS.ch.bel.block g HGB.out).trans HGR.out) (HKk.out) Tryz.underlying60 rfl (by rw [Tr.cells_len]; exact arith_size) ?_
      exact hK _ X hS (fun _ hx => Option.some.inj hx)
    refine Reg.EachG.plain rfl (fun L u T X hL hz hS hk K hK => ?_) ?_
    · skip
      have g2 : T[2]? = some (.pointer (some ⟨cb, 0, none⟩)) := hk.val 0 2 (by kernel_rfl) (by kernel_rfl) rfl
      have g6 : T[6]? = some (.agg (k.cells vk).toArray) := hk.val 4 6 (by kernel_rfl) (by kernel_rfl) rfl
      have hco := hS.co
      rw [hL, if_neg (by decide)] at hco
      have hC := HIH.out X hco hS.ch
      clear hk hz
      go_simp
      refine hC.mono ?_
      rintro x w' ⟨rfl, hg', hc'⟩
      refine hK _ w' ?_ (fun _ hx => Option.some.inj hx)
      rw [Reg.upd_same, if_pos rfl]
      rw [hL, if_neg (by decide)] at hS
      exact hS.step hg' hc' (by decide) (by decide)
    exact Reg.EachG.nil
  case rsZ =>
    intro L u w1 hL hS hI
    have e0 : u 0 = .pointer (some ⟨cb, 0, none⟩) := hI 0 (by decide) _ rfl
    have e1 : u 1 = .pointer (some ⟨x1, 5, none⟩) := hI 1 (by decide) _ rfl
    have e2 : u 2 = .slice (some ⟨g, 0, none⟩) 3 cap := hI 2 (by decide) _ rfl
    have e3 : u 3 = .pointer (some ⟨g, 12, none⟩) := hI 3 (by decide) _ rfl
    have e4 : u 4 = .agg (k.cells vk).toArray := hI 4 (by decide) _ rfl
    have e5 : u 5 = .tuple #[] := hI 5 (by decide) _ rfl
    clear hI
    simp only [Reg.putAll, Act.put, List.setIfInBounds_toArray, List.set_cons_succ, List.set_cons_zero, Nat.zero_add, Nat.reduceAdd, e0, e1, e2, e3, e4, e5]
    clear e0 e1 e2 e3 e4 e5
    have hL5 := hL 5 (by decide)
    rw [hL5, if_pos rfl] at hS
    have HS1 := Lib.hid hS
    clear hS hL5 hL u L
    go_wp2_with fail
    go_end0
    exact ⟨rfl, HS1.out.co, HS1.out.ch⟩
set_option maxRecDepth 100000 in
set_option maxHeartbeats 8000000 in
theorem clo_and (op : ByteArray) (p g cap : Nat) (pc cur : Array Value) (k : Tr) (vk : Value) (ihk : PartC k) (B cb x0 x1 : Nat) (m : List Ins) (w : World) (h : CoAt B cb m w) (hBw : B ≤ w.heap.size) (hb0 : w.heap[x0]? = some (.cells #[.pointer (some ⟨cb, 0, none⟩)] 180 (0, 0))) (hb1 : w.heap[x1]? = some (.cells pc 60 (0, 0)))
    (hpc : pc = #[.string op, .int .i64 0, .string ⟨#[]⟩, .int .i64 p, .int .i64 0, .slice (some ⟨g, 0, none⟩) 2 cap]) (hgB : g < B) (hg : w.heap[g]? = some (.cells cur 60 (0, 0))) (hk : ∀ j u, (k.cells vk)[j]? = some u → cur[6 + j]? = some u) (hlay : k.Lay w (fun k => k < B) vk) (hlen : m.length + (comp k 0).length ≤ 1000000) :
    Calls Tryz.prog 124 #[.pointer (some ⟨x0, 0, none⟩), .pointer (some ⟨x1, 0, none⟩)] w fun x w' => x = .returned (.tuple #[]) ∧ CoAt B cb (m ++ (comp k m.length ++ [iOne sTruth])) w' ∧ ChC B w w' := by
  have HS0 : Hid (PtS B cb x0 x1 w w #[.pointer (some ⟨cb, 0, none⟩)] 180 pc m w) := Lib.hid ⟨h, ChC.refl B w, Nat.le_refl _, hb0, hb1⟩
  have HPC := Lib.hid hpc
  have HGB := Lib.hid hgB
  have HGR := Lib.hid hg
  have HKk := Lib.hid hk
  have HIH : Hid (∀ X, CoAt B cb m X → ChC B w X → Calls Tryz.prog 125 #[.pointer (some ⟨cb, 0, none⟩), .agg (k.cells vk).toArray] X fun x w' => x = .returned (.tuple #[]) ∧ CoAt B cb (m ++ (comp k m.length ++ [iOne sTruth])) w' ∧ ChC B X w') := Lib.hid (fun X hX hC => truth_any k ihk B cb vk _ X hX (Nat.le_trans hBw hC.bel.size) (hlay.kept (fun k hk _ => hC.bel.block k hk) k vk) hlen)
  have hz0 := lt_blkA hb0
  have hz1 := lt_blkA hb1
  clear h hb0 hb1 hpc hgB hg hk hlay hlen ihk
  go_enter Tryz.func124, Tryz.ntmps124
  refine Reg.wp_region_sto (fun L u X => PtS B cb x0 x1 w w #[.pointer (some ⟨cb, 0, none⟩)] 180 pc (if L 5 = true then m ++ (comp k m.length ++ [iOne sTruth]) else m) X) (fun j => ([some (.pointer (some ⟨cb, 0, none⟩)), some (.pointer (some ⟨x1, 5, none⟩)), some (.slice (some ⟨g, 0, none⟩) 2 cap), some (.pointer (some ⟨g, 6, none⟩)), some (.agg (k.cells vk).toArray), some (.tuple #[])] : List (Option Value)).getD j none) (by kernel_rfl) (by kernel_rfl) (by kernel_rfl) (by kernel_rfl) ?rs0 ?rsE ?rsZ
  case rs0 => exact HS0.out.drew hBw
  case rsE =>
    refine Reg.EachG.plain rfl (fun L u T X hL hz hS hk K hK => ?_) ?_
    · skip
      have g0 : T[0]? = some (.pointer (some ⟨x0, 0, none⟩)) := hk.old 0 (by kernel_rfl) rfl
      have c0 := (Lib.cell_of_heap hS.b0 0).trans rfl
      have hK := hK _ X hS (fun _ hx => Option.some.inj hx)
      clear hk hz hL
      go_simp
      exact hK
    refine Reg.EachG.plain rfl (fun L u T X hL hz hS hk K hK => ?_) ?_
    · skip
      have g1 : T[1]? = some (.pointer (some ⟨x1, 0, none⟩)) := hk.old 1 (by kernel_rfl) rfl
      have hK := hK _ X hS (fun _ hx => Option.some.inj hx)
      clear hk hz hL
      go_simp
      exact hK
    refine Reg.EachG.plain rfl (fun L u T X hL hz hS hk K hK => ?_) ?_
    · skip
      have g3 : T[3]? = some (.pointer (some ⟨x1, 5, none⟩)) := hk.val 1 3 (by kernel_rfl) (by kernel_rfl) rfl
      have hb1 := hS.b1
      rw [HPC.out] at hb1
      obtain ⟨_, _, _, _, _, c5, _⟩ := cells6A hb1
      have hK := hK _ X hS (fun _ hx => Option.some.inj hx)
      clear hk hz hL hb1
      go_simp
      exact hK
    refine Reg.EachG.plain rfl (fun L u T X hL hz hS hk K hK => ?_) ?_
    · skip
      have g4 : T[4]? = some (.slice (some ⟨g, 0, none⟩) 2 cap) := hk.val 2 4 (by kernel_rfl) (by kernel_rfl) rfl
      have hK := hK _ X hS (fun _ hx => Option.some.inj hx)
      clear hk hz hL
      go_simp
      exact hK
    refine Reg.EachG.plain rfl (fun L u T X hL hz hS hk K hK => ?_) ?_
    · skip
      have g5 : T[5]? = some (.pointer (some ⟨g, 6, none⟩)) := hk.val 3 5 (by kernel_rfl) (by kernel_rfl) rfl
      refine wp_load_part 60 _ rfl g 6 (by simp [Act.eval, g5]) _ cur (k.cells vk) (0, 0) _ ((hS.ch.bel.block g HGB.out).trans HGR.out) (HKk.out) Tryz.underlying60 rfl (by rw [Tr.cells_len]; exact arith_size) ?_
      exact hK _ X hS (fun _ hx => Option.some.inj hx)
    refine Reg.EachG.plain rfl (fun L u T X hL hz hS hk K hK => ?_) ?_
    · skip
      have g2 : T[2]? = some (.pointer (some ⟨cb, 0, none⟩)) := hk.val 0 2 (by kernel_rfl) (by kernel_rfl) rfl
      have g6 : T[6]? = some (.agg (k.cells vk).toArray) := hk.val 4 6 (by kernel_rfl) (by kernel_rfl) rfl
      have hco := hS.co
      rw [hL, if_neg (by decide)] at hco
      have hC := HIH.out X hco hS.ch
      clear hk hz
      go_simp
      refine hC.mono ?_
      rintro x w' ⟨rfl, hg', hc'⟩
      refine hK _ w' ?_ (fun _ hx => Option.some.inj hx)
      rw [Reg.upd_same, if_pos rfl]
      rw [hL, if_neg (by decide)] at hS
      exact hS.step hg' hc' (by decide) (by decide)
    exact Reg.EachG.nil
  case rsZ =>
    intro L u w1 hL hS hI
    have e0 : u 0 = .pointer (some ⟨cb, 0, none⟩) := hI 0 (by decide) _ rfl
    have e1 : u 1 = .pointer (some ⟨x1, 5, none⟩) := hI 1 (by decide) _ rfl
    have e2 : u 2 = .slice (some ⟨g, 0, none⟩) 2 cap := hI 2 (by decide) _ rfl
    have e3 : u 3 = .pointer (some ⟨g, 6, none⟩) := hI 3 (by decide) _ rfl
    have e4 : u 4 = .agg (k.cells vk).toArray := hI 4 (by decide) _ rfl
    have e5 : u 5 = .tuple #[] := hI 5 (by decide) _ rfl
    clear hI
    simp only [Reg.putAll, Act.put, List.setIfInBounds_toArray, List.set_cons_succ, List.set_cons_zero, Nat.zero_add, Nat.reduceAdd, e0, e1, e2, e3, e4, e5]
    clear e0 e1 e2 e3 e4 e5
    have hL5 := hL 5 (by decide)
    rw [hL5, if_pos rfl] at hS
    have HS1 := Lib.hid hS
    clear hS hL5 hL u L
    go_wp2_with fail
    go_end0
    exact ⟨rfl, HS1.out.co, HS1.out.ch⟩
set_option maxRecDepth 100000 in
set_option maxHeartbeats 8000000 in
theorem clo_or (op : ByteArray) (p g cap : Nat) (pc cur : Array Value) (k : Tr) (vk : Value) (ihk : PartC k) (B cb x0 x1 : Nat) (m : List Ins) (w : World) (h : CoAt B cb m w) (hBw : B ≤ w.heap.size) (hb0 : w.heap[x0]? = some (.cells #[.pointer (some ⟨cb, 0, none⟩)] 180 (0, 0))) (hb1 : w.heap[x1]? = some (.cells pc 60 (0, 0)))
    (hpc : pc = #[.string op, .int .i64 0, .string ⟨#[]⟩, .int .i64 p, .int .i64 0, .slice (some ⟨g, 0, none⟩) 2 cap]) (hgB : g < B) (hg : w.heap[g]? = some (.cells cur 60 (0, 0))) (hk : ∀ j u, (k.cells vk)[j]? = some u → cur[6 + j]? = some u) (hlay : k.Lay w (fun k => k < B) vk) (hlen : m.length + (comp k 0).length ≤ 1000000) :
    Calls Tryz.prog 129 #[.pointer (some ⟨x0, 0, none⟩), .pointer (some ⟨x1, 0, none⟩)] w fun x w' => x = .returned (.tuple #[]) ∧ CoAt B cb (m ++ (comp k m.length ++ [iOne sTruth])) w' ∧ ChC B w w' := by
  have HS0 : Hid (PtS B cb x0 x1 w w #[.pointer (some ⟨cb, 0, none⟩)] 180 pc m w) := Lib.hid ⟨h, ChC.refl B w, Nat.le_refl _, hb0, hb1⟩
  have HPC := Lib.hid hpc
  have HGB := Lib.hid hgB
  have HGR := Lib.hid hg
  have HKk := Lib.hid hk
  have HIH : Hid (∀ X, CoAt B cb m X → ChC B w X → Calls Tryz.prog 125 #[.pointer (some ⟨cb, 0, none⟩), .agg (k.cells vk).toArray] X fun x w' => x = .returned (.tuple #[]) ∧ CoAt B cb (m ++ (comp k m.length ++ [iOne sTruth])) w' ∧ ChC B X w') := Lib.hid (fun X hX hC => truth_any k ihk B cb vk _ X hX (Nat.le_trans hBw hC.bel.size) (hlay.kept (fun k hk _ => hC.bel.block k hk) k vk) hlen)
  have hz0 := lt_blkA hb0
  have hz1 := lt_blkA hb1
  clear h hb0 hb1 hpc hgB hg hk hlay hlen ihk
  go_enter Tryz.func129, Tryz.ntmps129
  refine Reg.wp_region_sto (fun L u X => PtS B cb x0 x1 w w #[.pointer (some ⟨cb, 0, none⟩)] 180 pc (if L 5 = true then m ++ (comp k m.length ++ [iOne sTruth]) else m) X) (fun j => ([some (.pointer (some ⟨cb, 0, none⟩)), some (.pointer (some ⟨x1, 5, none⟩)), some (.slice (some ⟨g, 0, none⟩) 2 cap), some (.pointer (some ⟨g, 6, none⟩)), some (.agg (k.cells vk).toArray), some (.tuple #[])] : List (Option Value)).getD j none) (by kernel_rfl) (by kernel_rfl) (by kernel_rfl) (by kernel_rfl) ?rs0 ?rsE ?rsZ
  case rs0 => exact HS0.out.drew hBw
  case rsE =>
    refine Reg.EachG.plain rfl (fun L u T X hL hz hS hk K hK => ?_) ?_
    · skip
      have g0 : T[0]? = some (.pointer (some ⟨x0, 0, none⟩)) := hk.old 0 (by kernel_rfl) rfl
      have c0 := (Lib.cell_of_heap hS.b0 0).trans rfl
      have hK := hK _ X hS (fun _ hx => Option.some.inj hx)
      clear hk hz hL
      go_simp
      exact hK
    refine Reg.EachG.plain rfl (fun L u T X hL hz hS hk K hK => ?_) ?_
    · skip
      have g1 : T[1]? = some (.pointer (some ⟨x1, 0, none⟩)) := hk.old 1 (by kernel_rfl) rfl
      have hK := hK _ X hS (fun _ hx => Option.some.inj hx)
      clear hk hz hL
      go_simp
      exact hK
    refine Reg.EachG.plain rfl (fun L u T X hL hz hS hk K hK => ?_) ?_
    · skip
      have g3 : T[3]? = some (.pointer (some ⟨x1, 5, none⟩)) := hk.val 1 3 (by kernel_rfl) (by kernel_rfl) rfl
      have hb1 := hS.b1
      rw [HPC.out] at hb1
      obtain ⟨_, _, _, _, _, c5, _⟩ := cells6A hb1
      have hK := hK _ X hS (fun _ hx => Option.some.inj hx)
      clear hk hz hL hb1
      go_simp
      exact hK
    refine Reg.EachG.plain rfl (fun L u T X hL hz hS hk K hK => ?_) ?_
    · skip
      have g4 : T[4]? = some (.slice (some ⟨g, 0, none⟩) 2 cap) := hk.val 2 4 (by kernel_rfl) (by kernel_rfl) rfl
      have hK := hK _ X hS (fun _ hx => Option.some.inj hx)
      clear hk hz hL
      go_simp
      exact hK
    refine Reg.EachG.plain rfl (fun L u T X hL hz hS hk K hK => ?_) ?_
    · skip
      have g5 : T[5]? = some (.pointer (some ⟨g, 6, none⟩)) := hk.val 3 5 (by kernel_rfl) (by kernel_rfl) rfl
      refine wp_load_part 60 _ rfl g 6 (by simp [Act.eval, g5]) _ cur (k.cells vk) (0, 0) _ ((hS.ch.bel.block g HGB.out).trans HGR.out) (HKk.out) Tryz.underlying60 rfl (by rw [Tr.cells_len]; exact arith_size) ?_
      exact hK _ X hS (fun _ hx => Option.some.inj hx)
    refine Reg.EachG.plain rfl (fun L u T X hL hz hS hk K hK => ?_) ?_
    · skip
      have g2 : T[2]? = some (.pointer (some ⟨cb, 0, none⟩)) := hk.val 0 2 (by kernel_rfl) (by kernel_rfl) rfl
      have g6 : T[6]? = some (.agg (k.cells vk).toArray) := hk.val 4 6 (by kernel_rfl) (by kernel_rfl) rfl
      have hco := hS.co
      rw [hL, if_neg (by decide)] at hco
      have hC := HIH.out X hco hS.ch
      clear hk hz
      go_simp
      refine hC.mono ?_
      rintro x w' ⟨rfl, hg', hc'⟩
      refine hK _ w' ?_ (fun _ hx => Option.some.inj hx)
      rw [Reg.upd_same, if_pos rfl]
      rw [hL, if_neg (by decide)] at hS
      exact hS.step hg' hc' (by decide) (by decide)
    exact Reg.EachG.nil
  case rsZ =>
    intro L u w1 hL hS hI
    have e0 : u 0 = .pointer (some ⟨cb, 0, none⟩) := hI 0 (by decide) _ rfl
    have e1 : u 1 = .pointer (some ⟨x1, 5, none⟩) := hI 1 (by decide) _ rfl
    have e2 : u 2 = .slice (some ⟨g, 0, none⟩) 2 cap := hI 2 (by decide) _ rfl
    have e3 : u 3 = .pointer (some ⟨g, 6, none⟩) := hI 3 (by decide) _ rfl
    have e4 : u 4 = .agg (k.cells vk).toArray := hI 4 (by decide) _ rfl
    have e5 : u 5 = .tuple #[] := hI 5 (by decide) _ rfl
    clear hI
    simp only [Reg.putAll, Act.put, List.setIfInBounds_toArray, List.set_cons_succ, List.set_cons_zero, Nat.zero_add, Nat.reduceAdd, e0, e1, e2, e3, e4, e5]
    clear e0 e1 e2 e3 e4 e5
    have hL5 := hL 5 (by decide)
    rw [hL5, if_pos rfl] at hS
    have HS1 := Lib.hid hS
    clear hS hL5 hL u L
    go_wp2_with fail
    go_end0
    exact ⟨rfl, HS1.out.co, HS1.out.ch⟩
set_option maxRecDepth 100000 in
set_option maxHeartbeats 8000000 in
theorem clo_no (B cb x0 : Nat) (m : List Ins) (w : World) (h : CoAt B cb m w) (hBw : B ≤ w.heap.size) (hb0 : w.heap[x0]? = some (.cells #[.pointer (some ⟨cb, 0, none⟩)] 180 (0, 0))) (hlen : m.length ≤ 1000000) :
    Calls Tryz.prog 126 #[.pointer (some ⟨x0, 0, none⟩)] w fun x w' => x = .returned (.tuple #[]) ∧ CoAt B cb (m ++ [iPush 0]) w' ∧ ChC B w w' := by
  have HN := Lib.hid (cnumber_any B cb m 0 w h hBw hlen)
  have c0 : w.cell? ⟨x0, 0, none⟩ = some (.pointer (some ⟨cb, 0, none⟩)) := (Lib.cell_of_heap hb0 0).trans rfl
  have hz0 := lt_blkA hb0
  clear h hb0
  go_enter Tryz.func126, Tryz.ntmps126
  go_wp2_with fail
  refine HN.out.mono ?_
  rintro x w1 ⟨rfl, hg1, hc1⟩
  have HG := Lib.hid hg1
  have HC := Lib.hid hc1
  clear hg1 hc1
  go_wp2_with fail
  go_end0
  exact ⟨rfl, HG.out, HC.out⟩
set_option maxRecDepth 100000 in
set_option maxHeartbeats 8000000 in
theorem clo_yes (B cb x0 : Nat) (m : List Ins) (w : World) (h : CoAt B cb m w) (hBw : B ≤ w.heap.size) (hb0 : w.heap[x0]? = some (.cells #[.pointer (some ⟨cb, 0, none⟩)] 180 (0, 0))) (hlen : m.length ≤ 1000000) :
    Calls Tryz.prog 128 #[.pointer (some ⟨x0, 0, none⟩)] w fun x w' => x = .returned (.tuple #[]) ∧ CoAt B cb (m ++ [iPush 1]) w' ∧ ChC B w w' := by
  have HN := Lib.hid (cnumber_any B cb m 1 w h hBw hlen)
  have c0 : w.cell? ⟨x0, 0, none⟩ = some (.pointer (some ⟨cb, 0, none⟩)) := (Lib.cell_of_heap hb0 0).trans rfl
  have hz0 := lt_blkA hb0
  clear h hb0
  go_enter Tryz.func128, Tryz.ntmps128
  go_wp2_with fail
  refine HN.out.mono ?_
  rintro x w1 ⟨rfl, hg1, hc1⟩
  have HG := Lib.hid hg1
  have HC := Lib.hid hc1
  clear hg1 hc1
  go_wp2_with fail
  go_end0
  exact ⟨rfl, HG.out, HC.out⟩
set_option maxRecDepth 100000 in
set_option maxHeartbeats 8000000 in
theorem part_cond (p : Nat) (a b c : Tr) (iha : PartC a) (ihb : PartC b) (ihc : PartC c) : PartC (.cond sQue p a b c) := by
  intro B cb kv l w h hBw hlay hlen
  obtain ⟨va, vb, vc, hr, ha, hb, hc⟩ := hlay
  have hr' : RowOf w (fun k => k < B) kv 3 (rowK (k3 a b c) (v3 va vb vc) 3) := by rw [rowK_3]; exact hr
  obtain ⟨g, cap, cur, rfl, hcap, hgB, hg, hcl⟩ := hr'.kid
  have hka : ∀ j u, (a.cells va)[j]? = some u → cur[0 + j]? = some u := hcl 0 (by omega)
  have hkb : ∀ j u, (b.cells vb)[j]? = some u → cur[6 + j]? = some u := hcl 1 (by omega)
  have hkc : ∀ j u, (c.cells vc)[j]? = some u → cur[12 + j]? = some u := hcl 2 (by omega)
  obtain ⟨A, hA⟩ : ∃ A, A = comp a l.length := ⟨_, rfl⟩
  obtain ⟨Y, hY⟩ : ∃ Y, Y = comp b (l.length + A.length + 1) := ⟨_, rfl⟩
  obtain ⟨N, hN⟩ : ∃ N, N = comp c (l.length + A.length + 1 + Y.length + 1) := ⟨_, rfl⟩
  have hco : comp (.cond sQue p a b c) l.length = A ++ (iIf (l.length + A.length + 1 + Y.length + 1) :: (Y ++ (iJump (l.length + A.length + 1 + Y.length + 1 + N.length) :: N))) := by
    rw [hA, hN, hY, hA]; rfl
  have hla : A.length = (comp a 0).length := by rw [hA]; exact comp_len _ _ _
  have hlb : Y.length = (comp b 0).length := by rw [hY]; exact comp_len _ _ _
  have hlc : N.length = (comp c 0).length := by rw [hN]; exact comp_len _ _ _
  have hcl0 : (comp (.cond sQue p a b c) 0).length = (comp a 0).length + 1 + (comp b 0).length + 1 + (comp c 0).length := by
    simp only [comp, compIf, List.length_append, List.length_cons]
    rw [comp_len b _ 0, comp_len c _ 0]
    omega
  rw [hcl0] at hlen
  rw [hco]
  obtain ⟨pc, hpc⟩ : ∃ pc : Array Value, pc = #[.string ⟨#[63]⟩, .int .i64 0, .string ⟨#[]⟩, .int .i64 p, .int .i64 0, .slice (some ⟨g, 0, none⟩) 3 cap] := ⟨_, rfl⟩
  obtain ⟨W, hW⟩ : ∃ W, W = box2 w cb pc := ⟨_, rfl⟩
  have HSa : Hid (PtS B cb w.heap.size (w.heap.size + 1) w W #[.pointer (some ⟨cb, 0, none⟩)] 180 pc l W) := Lib.hid (by rw [hW]; exact box2_pts h hBw pc)
  have HWE : Hid (W = (w.alloc (.cells #[.pointer (some ⟨cb, 0, none⟩)] 180)).alloc (.cells #[.string ⟨#[63]⟩, .int .i64 0, .string ⟨#[]⟩, .int .i64 p, .int .i64 0, .slice (some ⟨g, 0, none⟩) 3 cap] 60)) := Lib.hid (by rw [hW, hpc]; rfl)
  have HPC := Lib.hid hpc
  have HGB := Lib.hid hgB
  have HGR := Lib.hid hg
  have HKa := Lib.hid hka
  have HBR : Hid (∀ X, PtS B cb w.heap.size (w.heap.size + 1) w W #[.pointer (some ⟨cb, 0, none⟩)] 180 pc l X → Calls Tryz.prog 121 #[.pointer (some ⟨cb, 0, none⟩), .agg (a.cells va).toArray, .func (.func 122) #[] #[.pointer (some ⟨w.heap.size, 0, none⟩), .pointer (some ⟨w.heap.size + 1, 0, none⟩)], .func (.func 123) #[] #[.pointer (some ⟨w.heap.size, 0, none⟩), .pointer (some ⟨w.heap.size + 1, 0, none⟩)]] X fun x w' => x = .returned (.tuple #[]) ∧ CoAt B cb (l ++ (A ++ (iIf (l.length + A.length + 1 + Y.length + 1) :: (Y ++ (iJump (l.length + A.length + 1 + Y.length + 1 + N.length) :: N))))) w' ∧ ChC B X w') := Lib.hid (fun X hX => by
    have hBX := Nat.le_trans hBw hX.ch.bel.size
    refine branch_any B cb l A Y N 122 123 #[.pointer (some ⟨w.heap.size, 0, none⟩), .pointer (some ⟨w.heap.size + 1, 0, none⟩)] #[.pointer (some ⟨w.heap.size, 0, none⟩), .pointer (some ⟨w.heap.size + 1, 0, none⟩)] a va X hX.co hBX ha.shape (fun Z => enters_of Tryz.func122 (by kernel_rfl) rfl _ Z) (fun Z => enters_of Tryz.func123 (by kernel_rfl) rfl _ Z) (by omega)
      (fun Z hZ hC => ?_) (fun Z i hZ hC => ?_) (fun Z m hm hZ hC => ?_)
    · rw [hA]
      exact iha B cb va l Z hZ (Nat.le_trans hBX hC.bel.size) (ha.kept (fun k hk _ => (hX.ch.trans hC).bel.block k hk) a va) (by omega)
    · have hYC := hX.ch.trans hC
      have hBZ := Nat.le_trans hBX hC.bel.size
      have hb0 := hC.blk hX.b0 (by decide) (by decide)
      have hb1 := hC.blk hX.b1 (by decide) (by decide)
      have hgZ := (hYC.bel.block g hgB).trans hg
      have hml : ((l ++ A) ++ [i]).length = l.length + A.length + 1 := by rw [List.length_append, List.length_append]; rfl
      rw [hY, ← hml]; exact clo_one ⟨#[63]⟩ p g cap pc cur b vb ihb B cb w.heap.size (w.heap.size + 1) _ Z hZ hBZ hb0 hb1 hpc hgB hgZ hkb (hb.kept (fun k hk _ => hYC.bel.block k hk) b vb) (by omega)
    · have hYC := hX.ch.trans hC
      have hBZ := Nat.le_trans hBX hC.bel.size
      have hb0 := hC.blk hX.b0 (by decide) (by decide)
      have hb1 := hC.blk hX.b1 (by decide) (by decide)
      have hgZ := (hYC.bel.block g hgB).trans hg
      have e : l.length + A.length + 1 + Y.length + 1 = m.length := by omega
      rw [hN, e]; exact clo_two ⟨#[63]⟩ p g cap pc cur c vc ihc B cb w.heap.size (w.heap.size + 1) _ Z hZ hBZ hb0 hb1 hpc hgB hgZ hkc (hc.kept (fun k hk _ => hYC.bel.block k hk) c vc) (by omega))
  obtain ⟨_, _, _, _, _, _, hz1⟩ := cells6A (by have := HSa.out.b1; rw [HPC.out] at this; exact this)
  clear h hlen hpc hW hr hr' ha hka iha hb hkb ihb hc hkc ihc hcl hcl0 hla hA hY hN hco hgB hg hcap hlb hlc
  have d0 : W.cell? ⟨w.heap.size, 0, none⟩ = some (.pointer (some ⟨cb, 0, none⟩)) := (Lib.cell_of_heap HSa.out.b0 0).trans rfl
  have hb1 := HSa.out.b1
  rw [HPC.out] at hb1
  obtain ⟨c0, c1, c2, c3, c4, c5, _⟩ := cells6A hb1
  clear hb1
  show Calls Tryz.prog 88 #[.pointer (some ⟨cb, 0, none⟩), .agg #[.string ⟨#[63]⟩, .int .i64 0, .string ⟨#[]⟩, .int .i64 p, .int .i64 0, .slice (some ⟨g, 0, none⟩) 3 cap]] w _
  go_enter Tryz.func88, Tryz.ntmps88
  go_upto_region 4 with fail
  rw [← HWE.out]
  go_wp2_with fail
  refine Reg.wp_region_sto (fun L u X => PtS B cb w.heap.size (w.heap.size + 1) w W #[.pointer (some ⟨cb, 0, none⟩)] 180 pc (if L 7 = true then l ++ (A ++ (iIf (l.length + A.length + 1 + Y.length + 1) :: (Y ++ (iJump (l.length + A.length + 1 + Y.length + 1 + N.length) :: N)))) else l) X) (fun j => ([some (.pointer (some ⟨cb, 0, none⟩)), some (.pointer (some ⟨w.heap.size + 1, 5, none⟩)), some (.slice (some ⟨g, 0, none⟩) 3 cap), some (.pointer (some ⟨g, 0, none⟩)), some (.agg (a.cells va).toArray), some (.func (.func 122) #[] #[.pointer (some ⟨w.heap.size, 0, none⟩), .pointer (some ⟨w.heap.size + 1, 0, none⟩)]), some (.func (.func 123) #[] #[.pointer (some ⟨w.heap.size, 0, none⟩), .pointer (some ⟨w.heap.size + 1, 0, none⟩)]), some (.tuple #[])] : List (Option Value)).getD j none) (by kernel_rfl) (by kernel_rfl) (by kernel_rfl) (by kernel_rfl) ?rs0 ?rsE ?rsZ
  case rs0 => exact HSa.out.drew hBw
  case rsE =>
    refine Reg.EachG.plain rfl (fun L u T X hL hz hS hk K hK => ?_) ?_
    · skip
      have g2 : T[2]? = some (.pointer (some ⟨w.heap.size, 0, none⟩)) := hk.old 2 (by kernel_rfl) rfl
      have c0 := (Lib.cell_of_heap hS.b0 0).trans rfl
      have hK := hK _ X hS (fun _ hx => Option.some.inj hx)
      clear hk hz hL
      go_simp
      exact hK
    refine Reg.EachG.plain rfl (fun L u T X hL hz hS hk K hK => ?_) ?_
    · skip
      have g3 : T[3]? = some (.pointer (some ⟨w.heap.size + 1, 0, none⟩)) := hk.old 3 (by kernel_rfl) rfl
      have hK := hK _ X hS (fun _ hx => Option.some.inj hx)
      clear hk hz hL
      go_simp
      exact hK
    refine Reg.EachG.plain rfl (fun L u T X hL hz hS hk K hK => ?_) ?_
    · skip
      have g55 : T[55]? = some (.pointer (some ⟨w.heap.size + 1, 5, none⟩)) := hk.val 1 55 (by kernel_rfl) (by kernel_rfl) rfl
      have hb1 := hS.b1
      rw [HPC.out] at hb1
      obtain ⟨_, _, _, _, _, c5, _⟩ := cells6A hb1
      have hK := hK _ X hS (fun _ hx => Option.some.inj hx)
      clear hk hz hL hb1
      go_simp
      exact hK
    refine Reg.EachG.plain rfl (fun L u T X hL hz hS hk K hK => ?_) ?_
    · skip
      have g56 : T[56]? = some (.slice (some ⟨g, 0, none⟩) 3 cap) := hk.val 2 56 (by kernel_rfl) (by kernel_rfl) rfl
      have hK := hK _ X hS (fun _ hx => Option.some.inj hx)
      clear hk hz hL
      go_simp
      exact hK
    refine Reg.EachG.plain rfl (fun L u T X hL hz hS hk K hK => ?_) ?_
    · skip
      have g57 : T[57]? = some (.pointer (some ⟨g, 0, none⟩)) := hk.val 3 57 (by kernel_rfl) (by kernel_rfl) rfl
      refine wp_load_part 60 _ rfl g 0 (by simp [Act.eval, g57]) _ cur (a.cells va) (0, 0) _ ((hS.ch.bel.block g HGB.out).trans HGR.out) (HKa.out) Tryz.underlying60 rfl (by rw [Tr.cells_len]; exact arith_size) ?_
      exact hK _ X hS (fun _ hx => Option.some.inj hx)
    refine Reg.EachG.plain rfl (fun L u T X hL hz hS hk K hK => ?_) ?_
    · skip
      have g2 : T[2]? = some (.pointer (some ⟨w.heap.size, 0, none⟩)) := hk.old 2 (by kernel_rfl) rfl
      have g3 : T[3]? = some (.pointer (some ⟨w.heap.size + 1, 0, none⟩)) := hk.old 3 (by kernel_rfl) rfl
      have hK := hK _ X hS (fun _ hx => Option.some.inj hx)
      clear hk hz hL
      go_simp
      exact hK
    refine Reg.EachG.plain rfl (fun L u T X hL hz hS hk K hK => ?_) ?_
    · skip
      have g2 : T[2]? = some (.pointer (some ⟨w.heap.size, 0, none⟩)) := hk.old 2 (by kernel_rfl) rfl
      have g3 : T[3]? = some (.pointer (some ⟨w.heap.size + 1, 0, none⟩)) := hk.old 3 (by kernel_rfl) rfl
      have hK := hK _ X hS (fun _ hx => Option.some.inj hx)
      clear hk hz hL
      go_simp
      exact hK
    refine Reg.EachG.plain rfl (fun L u T X hL hz hS hk K hK => ?_) ?_
    · skip
      have g54 : T[54]? = some (.pointer (some ⟨cb, 0, none⟩)) := hk.val 0 54 (by kernel_rfl) (by kernel_rfl) rfl
      have g58 : T[58]? = some (.agg (a.cells va).toArray) := hk.val 4 58 (by kernel_rfl) (by kernel_rfl) rfl
      have g59 : T[59]? = some (.func (.func 122) #[] #[.pointer (some ⟨w.heap.size, 0, none⟩), .pointer (some ⟨w.heap.size + 1, 0, none⟩)]) := hk.val 5 59 (by kernel_rfl) (by kernel_rfl) rfl
      have g60 : T[60]? = some (.func (.func 123) #[] #[.pointer (some ⟨w.heap.size, 0, none⟩), .pointer (some ⟨w.heap.size + 1, 0, none⟩)]) := hk.val 6 60 (by kernel_rfl) (by kernel_rfl) rfl
      rw [hL, if_neg (by decide)] at hS
      have hC := HBR.out X hS
      clear hk hz
      go_simp
      refine hC.mono ?_
      rintro x w' ⟨rfl, hg', hc'⟩
      refine hK _ w' ?_ (fun _ hx => Option.some.inj hx)
      rw [Reg.upd_same, if_pos rfl]
      exact hS.step hg' hc' (by decide) (by decide)
    exact Reg.EachG.nil
  case rsZ =>
    intro L u w1 hL hS hI
    have e0 : u 0 = .pointer (some ⟨cb, 0, none⟩) := hI 0 (by decide) _ rfl
    have e1 : u 1 = .pointer (some ⟨w.heap.size + 1, 5, none⟩) := hI 1 (by decide) _ rfl
    have e2 : u 2 = .slice (some ⟨g, 0, none⟩) 3 cap := hI 2 (by decide) _ rfl
    have e3 : u 3 = .pointer (some ⟨g, 0, none⟩) := hI 3 (by decide) _ rfl
    have e4 : u 4 = .agg (a.cells va).toArray := hI 4 (by decide) _ rfl
    have e5 : u 5 = .func (.func 122) #[] #[.pointer (some ⟨w.heap.size, 0, none⟩), .pointer (some ⟨w.heap.size + 1, 0, none⟩)] := hI 5 (by decide) _ rfl
    have e6 : u 6 = .func (.func 123) #[] #[.pointer (some ⟨w.heap.size, 0, none⟩), .pointer (some ⟨w.heap.size + 1, 0, none⟩)] := hI 6 (by decide) _ rfl
    have e7 : u 7 = .tuple #[] := hI 7 (by decide) _ rfl
    clear hI
    simp only [Reg.putAll, Act.put, List.setIfInBounds_toArray, List.set_cons_succ, List.set_cons_zero, Nat.zero_add, Nat.reduceAdd, e0, e1, e2, e3, e4, e5, e6, e7]
    clear e0 e1 e2 e3 e4 e5 e6 e7
    have hL7 := hL 7 (by decide)
    rw [hL7, if_pos rfl] at hS
    have HS1 := Lib.hid hS
    clear hS hL7 hL u L
    go_wp2_with fail
    go_end0
    exact ⟨rfl, HS1.out.co, HS1.out.ch⟩
set_option maxRecDepth 100000 in
set_option maxHeartbeats 8000000 in
theorem part_and (p : Nat) (a b : Tr) (iha : PartC a) (ihb : PartC b) : PartC (.bin sAnd2 p a b) := by
  intro B cb kv l w h hBw hlay hlen
  obtain ⟨va, vb, hr, ha, hb⟩ := hlay
  have hr' : RowOf w (fun k => k < B) kv 2 (rowK (k2 a b) (v2 va vb) 2) := by rw [rowK_2]; exact hr
  obtain ⟨g, cap, cur, rfl, hcap, hgB, hg, hcl⟩ := hr'.kid
  have hka : ∀ j u, (a.cells va)[j]? = some u → cur[0 + j]? = some u := hcl 0 (by omega)
  have hkb : ∀ j u, (b.cells vb)[j]? = some u → cur[6 + j]? = some u := hcl 1 (by omega)
  obtain ⟨A, hA⟩ : ∃ A, A = comp a l.length := ⟨_, rfl⟩
  obtain ⟨Y, hY⟩ : ∃ Y, Y = comp b (l.length + A.length + 1) ++ [iOne sTruth] := ⟨_, rfl⟩
  obtain ⟨N, hN⟩ : ∃ N, N = [iPush 0] := ⟨_, rfl⟩
  have hco : comp (.bin sAnd2 p a b) l.length = A ++ (iIf (l.length + A.length + 1 + Y.length + 1) :: (Y ++ (iJump (l.length + A.length + 1 + Y.length + 1 + N.length) :: N))) := by
    rw [hN, hY]
    simp only [comp]
    rw [if_pos trivial, ← hA]
    simp only [compAnd, List.length_append, List.length_singleton, List.append_assoc, List.singleton_append]
    rfl
  have hla : A.length = (comp a 0).length := by rw [hA]; exact comp_len _ _ _
  have hlb : Y.length = (comp b 0).length + 1 := by rw [hY, List.length_append, comp_len b _ 0]; rfl
  have hlc : N.length = 1 := by rw [hN]; rfl
  have hcl0 : (comp (.bin sAnd2 p a b) 0).length = (comp a 0).length + 1 + (comp b 0).length + 3 := by
    simp only [comp]
    rw [if_pos trivial]
    simp only [compAnd, List.length_append, List.length_cons, List.length_nil]
    rw [comp_len b _ 0]
    omega
  rw [hcl0] at hlen
  rw [hco]
  obtain ⟨pc, hpc⟩ : ∃ pc : Array Value, pc = #[.string ⟨#[38, 38]⟩, .int .i64 0, .string ⟨#[]⟩, .int .i64 p, .int .i64 0, .slice (some ⟨g, 0, none⟩) 2 cap] := ⟨_, rfl⟩
  obtain ⟨W, hW⟩ : ∃ W, W = box2 w cb pc := ⟨_, rfl⟩
  have HSa : Hid (PtS B cb w.heap.size (w.heap.size + 1) w W #[.pointer (some ⟨cb, 0, none⟩)] 180 pc l W) := Lib.hid (by rw [hW]; exact box2_pts h hBw pc)
  have HWE : Hid (W = (w.alloc (.cells #[.pointer (some ⟨cb, 0, none⟩)] 180)).alloc (.cells #[.string ⟨#[38, 38]⟩, .int .i64 0, .string ⟨#[]⟩, .int .i64 p, .int .i64 0, .slice (some ⟨g, 0, none⟩) 2 cap] 60)) := Lib.hid (by rw [hW, hpc]; rfl)
  have HPC := Lib.hid hpc
  have HGB := Lib.hid hgB
  have HGR := Lib.hid hg
  have HKa := Lib.hid hka
  have HBR : Hid (∀ X, PtS B cb w.heap.size (w.heap.size + 1) w W #[.pointer (some ⟨cb, 0, none⟩)] 180 pc l X → Calls Tryz.prog 121 #[.pointer (some ⟨cb, 0, none⟩), .agg (a.cells va).toArray, .func (.func 124) #[] #[.pointer (some ⟨w.heap.size, 0, none⟩), .pointer (some ⟨w.heap.size + 1, 0, none⟩)], .func (.func 126) #[] #[.pointer (some ⟨w.heap.size, 0, none⟩)]] X fun x w' => x = .returned (.tuple #[]) ∧ CoAt B cb (l ++ (A ++ (iIf (l.length + A.length + 1 + Y.length + 1) :: (Y ++ (iJump (l.length + A.length + 1 + Y.length + 1 + N.length) :: N))))) w' ∧ ChC B X w') := Lib.hid (fun X hX => by
    have hBX := Nat.le_trans hBw hX.ch.bel.size
    refine branch_any B cb l A Y N 124 126 #[.pointer (some ⟨w.heap.size, 0, none⟩), .pointer (some ⟨w.heap.size + 1, 0, none⟩)] #[.pointer (some ⟨w.heap.size, 0, none⟩)] a va X hX.co hBX ha.shape (fun Z => enters_of Tryz.func124 (by kernel_rfl) rfl _ Z) (fun Z => enters_of Tryz.func126 (by kernel_rfl) rfl _ Z) (by omega)
      (fun Z hZ hC => ?_) (fun Z i hZ hC => ?_) (fun Z m hm hZ hC => ?_)
    · rw [hA]
      exact iha B cb va l Z hZ (Nat.le_trans hBX hC.bel.size) (ha.kept (fun k hk _ => (hX.ch.trans hC).bel.block k hk) a va) (by omega)
    · have hYC := hX.ch.trans hC
      have hBZ := Nat.le_trans hBX hC.bel.size
      have hb0 := hC.blk hX.b0 (by decide) (by decide)
      have hb1 := hC.blk hX.b1 (by decide) (by decide)
      have hgZ := (hYC.bel.block g hgB).trans hg
      have hml : ((l ++ A) ++ [i]).length = l.length + A.length + 1 := by rw [List.length_append, List.length_append]; rfl
      rw [hY, ← hml]; exact clo_and ⟨#[38, 38]⟩ p g cap pc cur b vb ihb B cb w.heap.size (w.heap.size + 1) _ Z hZ hBZ hb0 hb1 hpc hgB hgZ hkb (hb.kept (fun k hk _ => hYC.bel.block k hk) b vb) (by omega)
    · have hYC := hX.ch.trans hC
      have hBZ := Nat.le_trans hBX hC.bel.size
      have hb0 := hC.blk hX.b0 (by decide) (by decide)
      have hb1 := hC.blk hX.b1 (by decide) (by decide)
      have hgZ := (hYC.bel.block g hgB).trans hg
      rw [hN]; exact clo_no B cb w.heap.size m Z hZ hBZ hb0 (by omega))
  obtain ⟨_, _, _, _, _, _, hz1⟩ := cells6A (by have := HSa.out.b1; rw [HPC.out] at this; exact this)
  clear h hlen hpc hW hr hr' ha hka iha hb hkb ihb hcl hcl0 hla hA hY hN hco hgB hg hcap hlb hlc
  have d0 : W.cell? ⟨w.heap.size, 0, none⟩ = some (.pointer (some ⟨cb, 0, none⟩)) := (Lib.cell_of_heap HSa.out.b0 0).trans rfl
  have hb1 := HSa.out.b1
  rw [HPC.out] at hb1
  obtain ⟨c0, c1, c2, c3, c4, c5, _⟩ := cells6A hb1
  clear hb1
  show Calls Tryz.prog 88 #[.pointer (some ⟨cb, 0, none⟩), .agg #[.string ⟨#[38, 38]⟩, .int .i64 0, .string ⟨#[]⟩, .int .i64 p, .int .i64 0, .slice (some ⟨g, 0, none⟩) 2 cap]] w _
  go_enter Tryz.func88, Tryz.ntmps88
  go_upto_region 4 with fail
  rw [← HWE.out]
  go_wp2_with fail
  refine Reg.wp_region_sto (fun L u X => PtS B cb w.heap.size (w.heap.size + 1) w W #[.pointer (some ⟨cb, 0, none⟩)] 180 pc (if L 7 = true then l ++ (A ++ (iIf (l.length + A.length + 1 + Y.length + 1) :: (Y ++ (iJump (l.length + A.length + 1 + Y.length + 1 + N.length) :: N)))) else l) X) (fun j => ([some (.pointer (some ⟨cb, 0, none⟩)), some (.pointer (some ⟨w.heap.size + 1, 5, none⟩)), some (.slice (some ⟨g, 0, none⟩) 2 cap), some (.pointer (some ⟨g, 0, none⟩)), some (.agg (a.cells va).toArray), some (.func (.func 124) #[] #[.pointer (some ⟨w.heap.size, 0, none⟩), .pointer (some ⟨w.heap.size + 1, 0, none⟩)]), some (.func (.func 126) #[] #[.pointer (some ⟨w.heap.size, 0, none⟩)]), some (.tuple #[])] : List (Option Value)).getD j none) (by kernel_rfl) (by kernel_rfl) (by kernel_rfl) (by kernel_rfl) ?rs0 ?rsE ?rsZ
  case rs0 => exact HSa.out.drew hBw
  case rsE =>
    refine Reg.EachG.plain rfl (fun L u T X hL hz hS hk K hK => ?_) ?_
    · skip
      have g2 : T[2]? = some (.pointer (some ⟨w.heap.size, 0, none⟩)) := hk.old 2 (by kernel_rfl) rfl
      have c0 := (Lib.cell_of_heap hS.b0 0).trans rfl
      have hK := hK _ X hS (fun _ hx => Option.some.inj hx)
      clear hk hz hL
      go_simp
      exact hK
    refine Reg.EachG.plain rfl (fun L u T X hL hz hS hk K hK => ?_) ?_
    · skip
      have g3 : T[3]? = some (.pointer (some ⟨w.heap.size + 1, 0, none⟩)) := hk.old 3 (by kernel_rfl) rfl
      have hK := hK _ X hS (fun _ hx => Option.some.inj hx)
      clear hk hz hL
      go_simp
      exact hK
    refine Reg.EachG.plain rfl (fun L u T X hL hz hS hk K hK => ?_) ?_
    · skip
      have g67 : T[67]? = some (.pointer (some ⟨w.heap.size + 1, 5, none⟩)) := hk.val 1 67 (by kernel_rfl) (by kernel_rfl) rfl
      have hb1 := hS.b1
      rw [HPC.out] at hb1
      obtain ⟨_, _, _, _, _, c5, _⟩ := cells6A hb1
      have hK := hK _ X hS (fun _ hx => Option.some.inj hx)
      clear hk hz hL hb1
      go_simp
      exact hK
    refine Reg.EachG.plain rfl (fun L u T X hL hz hS hk K hK => ?_) ?_
    · skip
      have g68 : T[68]? = some (.slice (some ⟨g, 0, none⟩) 2 cap) := hk.val 2 68 (by kernel_rfl) (by kernel_rfl) rfl
      have hK := hK _ X hS (fun _ hx => Option.some.inj hx)
      clear hk hz hL
      go_simp
      exact hK
    refine Reg.EachG.plain rfl (fun L u T X hL hz hS hk K hK => ?_) ?_
    · skip
      have g69 : T[69]? = some (.pointer (some ⟨g, 0, none⟩)) := hk.val 3 69 (by kernel_rfl) (by kernel_rfl) rfl
      refine wp_load_part 60 _ rfl g 0 (by simp [Act.eval, g69]) _ cur (a.cells va) (0, 0) _ ((hS.ch.bel.block g HGB.out).trans HGR.out) (HKa.out) Tryz.underlying60 rfl (by rw [Tr.cells_len]; exact arith_size) ?_
      exact hK _ X hS (fun _ hx => Option.some.inj hx)
    refine Reg.EachG.plain rfl (fun L u T X hL hz hS hk K hK => ?_) ?_
    · skip
      have g2 : T[2]? = some (.pointer (some ⟨w.heap.size, 0, none⟩)) := hk.old 2 (by kernel_rfl) rfl
      have g3 : T[3]? = some (.pointer (some ⟨w.heap.size + 1, 0, none⟩)) := hk.old 3 (by kernel_rfl) rfl
      have hK := hK _ X hS (fun _ hx => Option.some.inj hx)
      clear hk hz hL
      go_simp
      exact hK
    refine Reg.EachG.plain rfl (fun L u T X hL hz hS hk K hK => ?_) ?_
    · skip
      have g2 : T[2]? = some (.pointer (some ⟨w.heap.size, 0, none⟩)) := hk.old 2 (by kernel_rfl) rfl
      have hK := hK _ X hS (fun _ hx => Option.some.inj hx)
      clear hk hz hL
      go_simp
      exact hK
    refine Reg.EachG.plain rfl (fun L u T X hL hz hS hk K hK => ?_) ?_
    · skip
      have g66 : T[66]? = some (.pointer (some ⟨cb, 0, none⟩)) := hk.val 0 66 (by kernel_rfl) (by kernel_rfl) rfl
      have g70 : T[70]? = some (.agg (a.cells va).toArray) := hk.val 4 70 (by kernel_rfl) (by kernel_rfl) rfl
      have g71 : T[71]? = some (.func (.func 124) #[] #[.pointer (some ⟨w.heap.size, 0, none⟩), .pointer (some ⟨w.heap.size + 1, 0, none⟩)]) := hk.val 5 71 (by kernel_rfl) (by kernel_rfl) rfl
      have g72 : T[72]? = some (.func (.func 126) #[] #[.pointer (some ⟨w.heap.size, 0, none⟩)]) := hk.val 6 72 (by kernel_rfl) (by kernel_rfl) rfl
      rw [hL, if_neg (by decide)] at hS
      have hC := HBR.out X hS
      clear hk hz
      go_simp
      refine hC.mono ?_
      rintro x w' ⟨rfl, hg', hc'⟩
      refine hK _ w' ?_ (fun _ hx => Option.some.inj hx)
      rw [Reg.upd_same, if_pos rfl]
      exact hS.step hg' hc' (by decide) (by decide)
    exact Reg.EachG.nil
  case rsZ =>
    intro L u w1 hL hS hI
    have e0 : u 0 = .pointer (some ⟨cb, 0, none⟩) := hI 0 (by decide) _ rfl
    have e1 : u 1 = .pointer (some ⟨w.heap.size + 1, 5, none⟩) := hI 1 (by decide) _ rfl
    have e2 : u 2 = .slice (some ⟨g, 0, none⟩) 2 cap := hI 2 (by decide) _ rfl
    have e3 : u 3 = .pointer (some ⟨g, 0, none⟩) := hI 3 (by decide) _ rfl
    have e4 : u 4 = .agg (a.cells va).toArray := hI 4 (by decide) _ rfl
    have e5 : u 5 = .func (.func 124) #[] #[.pointer (some ⟨w.heap.size, 0, none⟩), .pointer (some ⟨w.heap.size + 1, 0, none⟩)] := hI 5 (by decide) _ rfl
    have e6 : u 6 = .func (.func 126) #[] #[.pointer (some ⟨w.heap.size, 0, none⟩)] := hI 6 (by decide) _ rfl
    have e7 : u 7 = .tuple #[] := hI 7 (by decide) _ rfl
    clear hI
    simp only [Reg.putAll, Act.put, List.setIfInBounds_toArray, List.set_cons_succ, List.set_cons_zero, Nat.zero_add, Nat.reduceAdd, e0, e1, e2, e3, e4, e5, e6, e7]
    clear e0 e1 e2 e3 e4 e5 e6 e7
    have hL7 := hL 7 (by decide)
    rw [hL7, if_pos rfl] at hS
    have HS1 := Lib.hid hS
    clear hS hL7 hL u L
    go_wp2_with fail
    go_end0
    exact ⟨rfl, HS1.out.co, HS1.out.ch⟩
set_option maxRecDepth 100000 in
set_option maxHeartbeats 8000000 in
theorem part_or (p : Nat) (a b : Tr) (iha : PartC a) (ihb : PartC b) : PartC (.bin sOr2 p a b) := by
  intro B cb kv l w h hBw hlay hlen
  obtain ⟨va, vb, hr, ha, hb⟩ := hlay
  have hr' : RowOf w (fun k => k < B) kv 2 (rowK (k2 a b) (v2 va vb) 2) := by rw [rowK_2]; exact hr
  obtain ⟨g, cap, cur, rfl, hcap, hgB, hg, hcl⟩ := hr'.kid
  have hka : ∀ j u, (a.cells va)[j]? = some u → cur[0 + j]? = some u := hcl 0 (by omega)
  have hkb : ∀ j u, (b.cells vb)[j]? = some u → cur[6 + j]? = some u := hcl 1 (by omega)
  obtain ⟨A, hA⟩ : ∃ A, A = comp a l.length := ⟨_, rfl⟩
  obtain ⟨Y, hY⟩ : ∃ Y, Y = [iPush 1] := ⟨_, rfl⟩
  obtain ⟨N, hN⟩ : ∃ N, N = comp b (l.length + A.length + 3) ++ [iOne sTruth] := ⟨_, rfl⟩
  have hco : comp (.bin sOr2 p a b) l.length = A ++ (iIf (l.length + A.length + 1 + Y.length + 1) :: (Y ++ (iJump (l.length + A.length + 1 + Y.length + 1 + N.length) :: N))) := by
    rw [hN, hY]
    simp only [comp]
    rw [if_neg (by decide), if_pos trivial, ← hA]
    simp only [compOr, List.length_append, List.length_singleton, List.singleton_append]
    rfl
  have hla : A.length = (comp a 0).length := by rw [hA]; exact comp_len _ _ _
  have hlb : N.length = (comp b 0).length + 1 := by rw [hN, List.length_append, comp_len b _ 0]; rfl
  have hlc : Y.length = 1 := by rw [hY]; rfl
  have hcl0 : (comp (.bin sOr2 p a b) 0).length = (comp a 0).length + 3 + (comp b 0).length + 1 := by
    simp only [comp]
    rw [if_neg (by decide), if_pos trivial]
    simp only [compOr, List.length_append, List.length_cons, List.length_nil]
    rw [comp_len b _ 0]
    omega
  rw [hcl0] at hlen
  rw [hco]
  obtain ⟨pc, hpc⟩ : ∃ pc : Array Value, pc = #[.string ⟨#[124, 124]⟩, .int .i64 0, .string ⟨#[]⟩, .int .i64 p, .int .i64 0, .slice (some ⟨g, 0, none⟩) 2 cap] := ⟨_, rfl⟩
  obtain ⟨W, hW⟩ : ∃ W, W = box2 w cb pc := ⟨_, rfl⟩
  have HSa : Hid (PtS B cb w.heap.size (w.heap.size + 1) w W #[.pointer (some ⟨cb, 0, none⟩)] 180 pc l W) := Lib.hid (by rw [hW]; exact box2_pts h hBw pc)
  have HWE : Hid (W = (w.alloc (.cells #[.pointer (some ⟨cb, 0, none⟩)] 180)).alloc (.cells #[.string ⟨#[124, 124]⟩, .int .i64 0, .string ⟨#[]⟩, .int .i64 p, .int .i64 0, .slice (some ⟨g, 0, none⟩) 2 cap] 60)) := Lib.hid (by rw [hW, hpc]; rfl)
  have HPC := Lib.hid hpc
  have HGB := Lib.hid hgB
  have HGR := Lib.hid hg
  have HKa := Lib.hid hka
  have HBR : Hid (∀ X, PtS B cb w.heap.size (w.heap.size + 1) w W #[.pointer (some ⟨cb, 0, none⟩)] 180 pc l X → Calls Tryz.prog 121 #[.pointer (some ⟨cb, 0, none⟩), .agg (a.cells va).toArray, .func (.func 128) #[] #[.pointer (some ⟨w.heap.size, 0, none⟩)], .func (.func 129) #[] #[.pointer (some ⟨w.heap.size, 0, none⟩), .pointer (some ⟨w.heap.size + 1, 0, none⟩)]] X fun x w' => x = .returned (.tuple #[]) ∧ CoAt B cb (l ++ (A ++ (iIf (l.length + A.length + 1 + Y.length + 1) :: (Y ++ (iJump (l.length + A.length + 1 + Y.length + 1 + N.length) :: N))))) w' ∧ ChC B X w') := Lib.hid (fun X hX => by
    have hBX := Nat.le_trans hBw hX.ch.bel.size
    refine branch_any B cb l A Y N 128 129 #[.pointer (some ⟨w.heap.size, 0, none⟩)] #[.pointer (some ⟨w.heap.size, 0, none⟩), .pointer (some ⟨w.heap.size + 1, 0, none⟩)] a va X hX.co hBX ha.shape (fun Z => enters_of Tryz.func128 (by kernel_rfl) rfl _ Z) (fun Z => enters_of Tryz.func129 (by kernel_rfl) rfl _ Z) (by omega)
      (fun Z hZ hC => ?_) (fun Z i hZ hC => ?_) (fun Z m hm hZ hC => ?_)
    · rw [hA]
      exact iha B cb va l Z hZ (Nat.le_trans hBX hC.bel.size) (ha.kept (fun k hk _ => (hX.ch.trans hC).bel.block k hk) a va) (by omega)
    · have hYC := hX.ch.trans hC
      have hBZ := Nat.le_trans hBX hC.bel.size
      have hb0 := hC.blk hX.b0 (by decide) (by decide)
      have hb1 := hC.blk hX.b1 (by decide) (by decide)
      have hgZ := (hYC.bel.block g hgB).trans hg
      have hml : ((l ++ A) ++ [i]).length = l.length + A.length + 1 := by rw [List.length_append, List.length_append]; rfl
      rw [hY]; exact clo_yes B cb w.heap.size _ Z hZ hBZ hb0 (by omega)
    · have hYC := hX.ch.trans hC
      have hBZ := Nat.le_trans hBX hC.bel.size
      have hb0 := hC.blk hX.b0 (by decide) (by decide)
      have hb1 := hC.blk hX.b1 (by decide) (by decide)
      have hgZ := (hYC.bel.block g hgB).trans hg
      have e : l.length + A.length + 3 = m.length := by omega
      rw [hN, e]; exact clo_or ⟨#[124, 124]⟩ p g cap pc cur b vb ihb B cb w.heap.size (w.heap.size + 1) _ Z hZ hBZ hb0 hb1 hpc hgB hgZ hkb (hb.kept (fun k hk _ => hYC.bel.block k hk) b vb) (by omega))
  obtain ⟨_, _, _, _, _, _, hz1⟩ := cells6A (by have := HSa.out.b1; rw [HPC.out] at this; exact this)
  clear h hlen hpc hW hr hr' ha hka iha hb hkb ihb hcl hcl0 hla hA hY hN hco hgB hg hcap hlb hlc
  have d0 : W.cell? ⟨w.heap.size, 0, none⟩ = some (.pointer (some ⟨cb, 0, none⟩)) := (Lib.cell_of_heap HSa.out.b0 0).trans rfl
  have hb1 := HSa.out.b1
  rw [HPC.out] at hb1
  obtain ⟨c0, c1, c2, c3, c4, c5, _⟩ := cells6A hb1
  clear hb1
  show Calls Tryz.prog 88 #[.pointer (some ⟨cb, 0, none⟩), .agg #[.string ⟨#[124, 124]⟩, .int .i64 0, .string ⟨#[]⟩, .int .i64 p, .int .i64 0, .slice (some ⟨g, 0, none⟩) 2 cap]] w _
  go_enter Tryz.func88, Tryz.ntmps88
  go_upto_region 4 with fail
  rw [← HWE.out]
  go_wp2_with fail
  refine Reg.wp_region_sto (fun L u X => PtS B cb w.heap.size (w.heap.size + 1) w W #[.pointer (some ⟨cb, 0, none⟩)] 180 pc (if L 7 = true then l ++ (A ++ (iIf (l.length + A.length + 1 + Y.length + 1) :: (Y ++ (iJump (l.length + A.length + 1 + Y.length + 1 + N.length) :: N)))) else l) X) (fun j => ([some (.pointer (some ⟨cb, 0, none⟩)), some (.pointer (some ⟨w.heap.size + 1, 5, none⟩)), some (.slice (some ⟨g, 0, none⟩) 2 cap), some (.pointer (some ⟨g, 0, none⟩)), some (.agg (a.cells va).toArray), some (.func (.func 128) #[] #[.pointer (some ⟨w.heap.size, 0, none⟩)]), some (.func (.func 129) #[] #[.pointer (some ⟨w.heap.size, 0, none⟩), .pointer (some ⟨w.heap.size + 1, 0, none⟩)]), some (.tuple #[])] : List (Option Value)).getD j none) (by kernel_rfl) (by kernel_rfl) (by kernel_rfl) (by kernel_rfl) ?rs0 ?rsE ?rsZ
  case rs0 => exact HSa.out.drew hBw
  case rsE =>
    refine Reg.EachG.plain rfl (fun L u T X hL hz hS hk K hK => ?_) ?_
    · skip
      have g2 : T[2]? = some (.pointer (some ⟨w.heap.size, 0, none⟩)) := hk.old 2 (by kernel_rfl) rfl
      have c0 := (Lib.cell_of_heap hS.b0 0).trans rfl
      have hK := hK _ X hS (fun _ hx => Option.some.inj hx)
      clear hk hz hL
      go_simp
      exact hK
    refine Reg.EachG.plain rfl (fun L u T X hL hz hS hk K hK => ?_) ?_
    · skip
      have g3 : T[3]? = some (.pointer (some ⟨w.heap.size + 1, 0, none⟩)) := hk.old 3 (by kernel_rfl) rfl
      have hK := hK _ X hS (fun _ hx => Option.some.inj hx)
      clear hk hz hL
      go_simp
      exact hK
    refine Reg.EachG.plain rfl (fun L u T X hL hz hS hk K hK => ?_) ?_
    · skip
      have g79 : T[79]? = some (.pointer (some ⟨w.heap.size + 1, 5, none⟩)) := hk.val 1 79 (by kernel_rfl) (by kernel_rfl) rfl
      have hb1 := hS.b1
      rw [HPC.out] at hb1
      obtain ⟨_, _, _, _, _, c5, _⟩ := cells6A hb1
      have hK := hK _ X hS (fun _ hx => Option.some.inj hx)
      clear hk hz hL hb1
      go_simp
      exact hK
    refine Reg.EachG.plain rfl (fun L u T X hL hz hS hk K hK => ?_) ?_
    · skip
      have g80 : T[80]? = some (.slice (some ⟨g, 0, none⟩) 2 cap) := hk.val 2 80 (by kernel_rfl) (by kernel_rfl) rfl
      have hK := hK _ X hS (fun _ hx => Option.some.inj hx)
      clear hk hz hL
      go_simp
      exact hK
    refine Reg.EachG.plain rfl (fun L u T X hL hz hS hk K hK => ?_) ?_
    · skip
      have g81 : T[81]? = some (.pointer (some ⟨g, 0, none⟩)) := hk.val 3 81 (by kernel_rfl) (by kernel_rfl) rfl
      refine wp_load_part 60 _ rfl g 0 (by simp [Act.eval, g81]) _ cur (a.cells va) (0, 0) _ ((hS.ch.bel.block g HGB.out).trans HGR.out) (HKa.out) Tryz.underlying60 rfl (by rw [Tr.cells_len]; exact arith_size) ?_
      exact hK _ X hS (fun _ hx => Option.some.inj hx)
    refine Reg.EachG.plain rfl (fun L u T X hL hz hS hk K hK => ?_) ?_
    · skip
      have g2 : T[2]? = some (.pointer (some ⟨w.heap.size, 0, none⟩)) := hk.old 2 (by kernel_rfl) rfl
      have hK := hK _ X hS (fun _ hx => Option.some.inj hx)
      clear hk hz hL
      go_simp
      exact hK
    refine Reg.EachG.plain rfl (fun L u T X hL hz hS hk K hK => ?_) ?_
    · skip
      have g2 : T[2]? = some (.pointer (some ⟨w.heap.size, 0, none⟩)) := hk.old 2 (by kernel_rfl) rfl
      have g3 : T[3]? = some (.pointer (some ⟨w.heap.size + 1, 0, none⟩)) := hk.old 3 (by kernel_rfl) rfl
      have hK := hK _ X hS (fun _ hx => Option.some.inj hx)
      clear hk hz hL
      go_simp
      exact hK
    refine Reg.EachG.plain rfl (fun L u T X hL hz hS hk K hK => ?_) ?_
    · skip
      have g78 : T[78]? = some (.pointer (some ⟨cb, 0, none⟩)) := hk.val 0 78 (by kernel_rfl) (by kernel_rfl) rfl
      have g82 : T[82]? = some (.agg (a.cells va).toArray) := hk.val 4 82 (by kernel_rfl) (by kernel_rfl) rfl
      have g83 : T[83]? = some (.func (.func 128) #[] #[.pointer (some ⟨w.heap.size, 0, none⟩)]) := hk.val 5 83 (by kernel_rfl) (by kernel_rfl) rfl
      have g84 : T[84]? = some (.func (.func 129) #[] #[.pointer (some ⟨w.heap.size, 0, none⟩), .pointer (some ⟨w.heap.size + 1, 0, none⟩)]) := hk.val 6 84 (by kernel_rfl) (by kernel_rfl) rfl
      rw [hL, if_neg (by decide)] at hS
      have hC := HBR.out X hS
      clear hk hz
      go_simp
      refine hC.mono ?_
      rintro x w' ⟨rfl, hg', hc'⟩
      refine hK _ w' ?_ (fun _ hx => Option.some.inj hx)
      rw [Reg.upd_same, if_pos rfl]
      exact hS.step hg' hc' (by decide) (by decide)
    exact Reg.EachG.nil
  case rsZ =>
    intro L u w1 hL hS hI
    have e0 : u 0 = .pointer (some ⟨cb, 0, none⟩) := hI 0 (by decide) _ rfl
    have e1 : u 1 = .pointer (some ⟨w.heap.size + 1, 5, none⟩) := hI 1 (by decide) _ rfl
    have e2 : u 2 = .slice (some ⟨g, 0, none⟩) 2 cap := hI 2 (by decide) _ rfl
    have e3 : u 3 = .pointer (some ⟨g, 0, none⟩) := hI 3 (by decide) _ rfl
    have e4 : u 4 = .agg (a.cells va).toArray := hI 4 (by decide) _ rfl
    have e5 : u 5 = .func (.func 128) #[] #[.pointer (some ⟨w.heap.size, 0, none⟩)] := hI 5 (by decide) _ rfl
    have e6 : u 6 = .func (.func 129) #[] #[.pointer (some ⟨w.heap.size, 0, none⟩), .pointer (some ⟨w.heap.size + 1, 0, none⟩)] := hI 6 (by decide) _ rfl
    have e7 : u 7 = .tuple #[] := hI 7 (by decide) _ rfl
    clear hI
    simp only [Reg.putAll, Act.put, List.setIfInBounds_toArray, List.set_cons_succ, List.set_cons_zero, Nat.zero_add, Nat.reduceAdd, e0, e1, e2, e3, e4, e5, e6, e7]
    clear e0 e1 e2 e3 e4 e5 e6 e7
    have hL7 := hL 7 (by decide)
    rw [hL7, if_pos rfl] at hS
    have HS1 := Lib.hid hS
    clear hS hL7 hL u L
    go_wp2_with fail
    go_end0
    exact ⟨rfl, HS1.out.co, HS1.out.ch⟩
end Go.Proofs.YthpmkpnndbjflaaGreatDoor
