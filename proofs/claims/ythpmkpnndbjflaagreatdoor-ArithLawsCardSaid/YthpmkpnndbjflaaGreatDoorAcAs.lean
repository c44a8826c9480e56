/- assignment; part of an assignment (gen_acas.py). -/
import Derived.Test.YthpmkpnndbjflaaGreatDoorAcPtA
namespace Go.Proofs.YthpmkpnndbjflaaGreatDoor
open Go.RowKit

theorem tl_empA : (⟨#[]⟩ : ByteArray).toList.isEmpty = true := by simp [ByteArray.toList_eq]
theorem tl_someA {s : ByteArray} (h : ¬ s = sEmpty) : s.toList.isEmpty = false := by
  have := tl_no (s := s) (l := []) h
  cases hs : s.toList with
  | nil => rw [hs] at this; exact absurd this (by decide)
  | cons x l => rfl

set_option maxRecDepth 100000 in
set_option maxHeartbeats 8000000 in
theorem assign_eq (op s : ByteArray) (p q : Nat) (t : Tr) (iht : PartC t) (hop : op.size ≤ 100) (hx : trimE op = sEmpty) (B cb : Nat) (kv : Value) (l : List Ins) (w : World) (h : CoAt B cb l w) (hBw : B ≤ w.heap.size) (hlay : (Tr.asg op s p q t).Lay w (fun k => k < B) kv)
    (hlen : l.length + (comp (.asg op s p q t) 0).length ≤ 1000000) :
    Calls Tryz.prog 120 #[.pointer (some ⟨cb, 0, none⟩), (Tr.asg op s p q t).v kv] w fun x w' => x = .returned (.tuple #[]) ∧ CoAt B cb (l ++ comp (.asg op s p q t) l.length) w' ∧ ChC B w w' := by
  obtain ⟨vt, hr, ht⟩ := hlay
  have hr' : RowOf w (fun k => k < B) kv 1 (rowK (k1 t) (v1 vt) 1) := by rw [rowK_1]; exact hr
  obtain ⟨g, cap, cur, rfl, hcap, hgB, hg, hcl⟩ := hr'.kid
  have hkt : ∀ j u, (t.cells vt)[j]? = some u → cur[0 + j]? = some u := hcl 0 (by omega)
  obtain ⟨pc, hpc⟩ : ∃ pc : Array Value, pc = #[.string op, .int .i64 0, .string s, .int .i64 p, .int .i64 q, .slice (some ⟨g, 0, none⟩) 1 cap] := ⟨_, rfl⟩
  have hco : comp (.asg op s p q t) l.length = comp t l.length ++ [iStore s] := by simp only [comp]; rw [if_pos hx]
  have hcl : (comp (.asg op s p q t) 0).length = (comp t 0).length + 1 := by simp only [comp]; rw [if_pos hx]; simp
  have hla : (comp t l.length).length = (comp t 0).length := comp_len _ _ _
  have hsum : (l ++ comp t l.length).length = l.length + (comp t 0).length := by rw [List.length_append, hla]
  rw [hcl] at hlen
  rw [hco]
  have HCO := Lib.hid hco
  obtain ⟨W, hW⟩ : ∃ W, W = w.alloc (.cells pc 60) := ⟨_, rfl⟩
  have HS0 : Hid (PtS B cb w.heap.size w.heap.size w W pc 60 pc l W) := Lib.hid (by rw [hW]; exact box1_pts h hBw pc)
  have HWE : Hid (W = w.alloc (.cells #[.string op, .int .i64 0, .string s, .int .i64 p, .int .i64 q, .slice (some ⟨g, 0, none⟩) 1 cap] 60)) := Lib.hid (by rw [hW, hpc])
  have HPC := Lib.hid hpc
  have HGR : Hid (∀ X, ChC B w X → X.heap[g]? = some (.cells cur 60 (0, 0))) := Lib.hid (fun X hX => (hX.bel.block g hgB).trans hg)
  have HKt := Lib.hid hkt
  have HTS : Hid (∀ W, Calls Tryz.prog 161 #[.string op, .string ⟨#[61]⟩] W fun e w' => e = .returned (.string (trimE op)) ∧ w' = W) := Lib.hid (fun W => Tryz.strings_TrimSuffix op ⟨#[61]⟩ W (by omega))
  have HIHt : Hid (∀ X, CoAt B cb (l) X → ChC B w X → Calls Tryz.prog 88 #[.pointer (some ⟨cb, 0, none⟩), .agg (t.cells vt).toArray] X fun x w' => x = .returned (.tuple #[]) ∧ CoAt B cb (l ++ comp t (l).length) w' ∧ ChC B X w') := Lib.hid (fun X hX hC => iht B cb vt _ X hX (Nat.le_trans hBw hC.bel.size) (ht.kept (fun k hk _ => hC.bel.block k hk) t vt) (by omega))
  have HPU1 : Hid (∀ X, CoAt B cb (l ++ comp t l.length) X → B ≤ X.heap.size → Calls Tryz.prog 119 #[.pointer (some ⟨cb, 0, none⟩), .agg (iStore s : Ins).cells.toArray] X fun x w' => x = .returned (.int .i64 ((l ++ comp t l.length).length : Nat)) ∧ CoAt B cb (l ++ comp t l.length ++ [iStore s]) w' ∧ ChC B X w') := Lib.hid (fun X hX hB => cput_any B cb _ _ X hX hB (by rw [hsum]; omega))
  have HX : Hid (trimE op = ⟨#[]⟩) := Lib.hid hx
  have hte := tl_empA
  clear h hlen hpc hW hr hr' ht hkt hcl hla hsum hco iht hgB hg hcap hop hx HCO
  have hb1 := HS0.out.b1
  rw [HPC.out] at hb1
  obtain ⟨c0, c1, c2, c3, c4, c5, hz1⟩ := cells6A hb1
  clear hb1
  show Calls Tryz.prog 120 #[.pointer (some ⟨cb, 0, none⟩), .agg #[.string op, .int .i64 0, .string s, .int .i64 p, .int .i64 q, .slice (some ⟨g, 0, none⟩) 1 cap]] w _
  go_enter Tryz.func120, Tryz.ntmps120
  go_upto_region 1 with fail
  rw [← HWE.out]
  go_wp2_with fail
  refine (HTS.out W).mono ?_
  rintro x w0 ⟨rfl, rfl⟩
  rw [HX.out]
  go_wp2_with (refine wpList_load_part rfl 60 _ rfl g 0 rfl 60 cur (t.cells vt) (0, 0) _ (HGR.out _ HS0.out.ch) HKt.out Tryz.underlying60 rfl (by rw [Tr.cells_len]; exact arith_size) ?_)
  refine (HIHt.out _ HS0.out.co HS0.out.ch).mono ?_
  rintro x w1 ⟨rfl, hg1, hc1⟩
  have HS1 := Lib.hid (HS0.out.step hg1 hc1 (by decide) (by decide))
  clear hg1 hc1 c0 c1 c2 c3 c4 c5 hz1
  have hb1 := HS1.out.b1
  rw [HPC.out] at hb1
  obtain ⟨c0, c1, c2, c3, c4, c5, hz1⟩ := cells6A hb1
  clear hb1
  go_wp2_with fail
  refine (HPU1.out _ HS1.out.co (Nat.le_trans hBw HS1.out.ch.bel.size)).mono ?_
  rintro x w2 ⟨rfl, hg2, hc2⟩
  have HG2 := Lib.hid hg2
  have HC2 := Lib.hid (HS1.out.ch.trans hc2)
  clear hg2 hc2
  go_wp2_with fail
  go_end0
  exact ⟨rfl, by have := HG2.out; rw [List.append_assoc] at this; exact this, HC2.out⟩

set_option maxRecDepth 100000 in
set_option maxHeartbeats 8000000 in
theorem assign_op (op s : ByteArray) (p q : Nat) (t : Tr) (iht : PartC t) (hop : op.size ≤ 100) (hx : ¬ trimE op = sEmpty) (B cb : Nat) (kv : Value) (l : List Ins) (w : World) (h : CoAt B cb l w) (hBw : B ≤ w.heap.size) (hlay : (Tr.asg op s p q t).Lay w (fun k => k < B) kv)
    (hlen : l.length + (comp (.asg op s p q t) 0).length ≤ 1000000) :
    Calls Tryz.prog 120 #[.pointer (some ⟨cb, 0, none⟩), (Tr.asg op s p q t).v kv] w fun x w' => x = .returned (.tuple #[]) ∧ CoAt B cb (l ++ comp (.asg op s p q t) l.length) w' ∧ ChC B w w' := by
  obtain ⟨vt, hr, ht⟩ := hlay
  have hr' : RowOf w (fun k => k < B) kv 1 (rowK (k1 t) (v1 vt) 1) := by rw [rowK_1]; exact hr
  obtain ⟨g, cap, cur, rfl, hcap, hgB, hg, hcl⟩ := hr'.kid
  have hkt : ∀ j u, (t.cells vt)[j]? = some u → cur[0 + j]? = some u := hcl 0 (by omega)
  obtain ⟨pc, hpc⟩ : ∃ pc : Array Value, pc = #[.string op, .int .i64 0, .string s, .int .i64 p, .int .i64 q, .slice (some ⟨g, 0, none⟩) 1 cap] := ⟨_, rfl⟩
  have hco : comp (.asg op s p q t) l.length = iLoad s p :: (comp t (l.length + 1) ++ [iTwo (trimE op) q, iStore s]) := by simp only [comp]; rw [if_neg hx]
  have hcl : (comp (.asg op s p q t) 0).length = 1 + (comp t 0).length + 2 := by simp only [comp]; rw [if_neg hx]; simp only [List.length_cons, List.length_append, List.length_nil]; rw [comp_len t _ 0]; omega
  have hl1 : (l ++ [iLoad s p]).length = l.length + 1 := by simp
  have hla : (comp t (l ++ [iLoad s p]).length).length = (comp t 0).length := comp_len _ _ _
  have hsum : ((l ++ [iLoad s p]) ++ comp t (l ++ [iLoad s p]).length).length = l.length + 1 + (comp t 0).length := by rw [List.length_append, hla, hl1]
  have hsum2 : (((l ++ [iLoad s p]) ++ comp t (l ++ [iLoad s p]).length) ++ [iTwo (trimE op) q]).length = l.length + 2 + (comp t 0).length := by rw [List.length_append, hsum]; simp only [List.length_singleton]; omega
  rw [hcl] at hlen
  rw [hco]
  have HCO := Lib.hid hco
  obtain ⟨W, hW⟩ : ∃ W, W = w.alloc (.cells pc 60) := ⟨_, rfl⟩
  have HS0 : Hid (PtS B cb w.heap.size w.heap.size w W pc 60 pc l W) := Lib.hid (by rw [hW]; exact box1_pts h hBw pc)
  have HWE : Hid (W = w.alloc (.cells #[.string op, .int .i64 0, .string s, .int .i64 p, .int .i64 q, .slice (some ⟨g, 0, none⟩) 1 cap] 60)) := Lib.hid (by rw [hW, hpc])
  have HPC := Lib.hid hpc
  have HGR : Hid (∀ X, ChC B w X → X.heap[g]? = some (.cells cur 60 (0, 0))) := Lib.hid (fun X hX => (hX.bel.block g hgB).trans hg)
  have HKt := Lib.hid hkt
  have HTS : Hid (∀ W, Calls Tryz.prog 161 #[.string op, .string ⟨#[61]⟩] W fun e w' => e = .returned (.string (trimE op)) ∧ w' = W) := Lib.hid (fun W => Tryz.strings_TrimSuffix op ⟨#[61]⟩ W (by omega))
  have HIHt : Hid (∀ X, CoAt B cb (l ++ [iLoad s p]) X → ChC B w X → Calls Tryz.prog 88 #[.pointer (some ⟨cb, 0, none⟩), .agg (t.cells vt).toArray] X fun x w' => x = .returned (.tuple #[]) ∧ CoAt B cb (l ++ [iLoad s p] ++ comp t (l ++ [iLoad s p]).length) w' ∧ ChC B X w') := Lib.hid (fun X hX hC => iht B cb vt _ X hX (Nat.le_trans hBw hC.bel.size) (ht.kept (fun k hk _ => hC.bel.block k hk) t vt) (by rw [hl1]; omega))
  have HPU0 : Hid (∀ X, CoAt B cb (l) X → B ≤ X.heap.size → Calls Tryz.prog 119 #[.pointer (some ⟨cb, 0, none⟩), .agg (iLoad s p : Ins).cells.toArray] X fun x w' => x = .returned (.int .i64 ((l).length : Nat)) ∧ CoAt B cb (l ++ [iLoad s p]) w' ∧ ChC B X w') := Lib.hid (fun X hX hB => cput_any B cb _ _ X hX hB (by omega))
  have HPU1 : Hid (∀ X, CoAt B cb ((l ++ [iLoad s p]) ++ comp t (l ++ [iLoad s p]).length) X → B ≤ X.heap.size → Calls Tryz.prog 119 #[.pointer (some ⟨cb, 0, none⟩), .agg (iTwo (trimE op) q : Ins).cells.toArray] X fun x w' => x = .returned (.int .i64 (((l ++ [iLoad s p]) ++ comp t (l ++ [iLoad s p]).length).length : Nat)) ∧ CoAt B cb ((l ++ [iLoad s p]) ++ comp t (l ++ [iLoad s p]).length ++ [iTwo (trimE op) q]) w' ∧ ChC B X w') := Lib.hid (fun X hX hB => cput_any B cb _ _ X hX hB (by rw [hsum]; omega))
  have HPU2 : Hid (∀ X, CoAt B cb (((l ++ [iLoad s p]) ++ comp t (l ++ [iLoad s p]).length) ++ [iTwo (trimE op) q]) X → B ≤ X.heap.size → Calls Tryz.prog 119 #[.pointer (some ⟨cb, 0, none⟩), .agg (iStore s : Ins).cells.toArray] X fun x w' => x = .returned (.int .i64 ((((l ++ [iLoad s p]) ++ comp t (l ++ [iLoad s p]).length) ++ [iTwo (trimE op) q]).length : Nat)) ∧ CoAt B cb (((l ++ [iLoad s p]) ++ comp t (l ++ [iLoad s p]).length) ++ [iTwo (trimE op) q] ++ [iStore s]) w' ∧ ChC B X w') := Lib.hid (fun X hX hB => cput_any B cb _ _ X hX hB (by rw [hsum2]; omega))
  have hte := tl_someA hx
  have HL1 := Lib.hid hl1
  clear h hlen hpc hW hr hr' ht hkt hcl hla hsum hsum2 hl1 hco iht hgB hg hcap hop hx HCO
  generalize trimE op = y at *
  have hb1 := HS0.out.b1
  rw [HPC.out] at hb1
  obtain ⟨c0, c1, c2, c3, c4, c5, hz1⟩ := cells6A hb1
  clear hb1
  show Calls Tryz.prog 120 #[.pointer (some ⟨cb, 0, none⟩), .agg #[.string op, .int .i64 0, .string s, .int .i64 p, .int .i64 q, .slice (some ⟨g, 0, none⟩) 1 cap]] w _
  go_enter Tryz.func120, Tryz.ntmps120
  go_upto_region 1 with fail
  rw [← HWE.out]
  go_wp2_with fail
  refine (HTS.out W).mono ?_
  rintro x w0 ⟨rfl, rfl⟩
  go_wp2_with fail
  refine (HPU0.out _ HS0.out.co (Nat.le_trans hBw HS0.out.ch.bel.size)).mono ?_
  rintro x w1 ⟨rfl, hg1, hc1⟩
  have HS1 := Lib.hid (HS0.out.step hg1 hc1 (by decide) (by decide))
  clear hg1 hc1 c0 c1 c2 c3 c4 c5 hz1
  have hb1 := HS1.out.b1
  rw [HPC.out] at hb1
  obtain ⟨c0, c1, c2, c3, c4, c5, hz1⟩ := cells6A hb1
  clear hb1
  go_wp2_with (refine wpList_load_part rfl 60 _ rfl g 0 rfl 60 cur (t.cells vt) (0, 0) _ (HGR.out _ HS1.out.ch) HKt.out Tryz.underlying60 rfl (by rw [Tr.cells_len]; exact arith_size) ?_)
  refine (HIHt.out _ HS1.out.co HS1.out.ch).mono ?_
  rintro x w2 ⟨rfl, hg1, hc1⟩
  have HS2 := Lib.hid (HS1.out.step hg1 hc1 (by decide) (by decide))
  clear hg1 hc1 c0 c1 c2 c3 c4 c5 hz1
  have hb1 := HS2.out.b1
  rw [HPC.out] at hb1
  obtain ⟨c0, c1, c2, c3, c4, c5, hz1⟩ := cells6A hb1
  clear hb1
  go_wp2_with fail
  refine (HPU1.out _ HS2.out.co (Nat.le_trans hBw HS2.out.ch.bel.size)).mono ?_
  rintro x w3 ⟨rfl, hg1, hc1⟩
  have HS3 := Lib.hid (HS2.out.step hg1 hc1 (by decide) (by decide))
  clear hg1 hc1 c0 c1 c2 c3 c4 c5 hz1
  have hb1 := HS3.out.b1
  rw [HPC.out] at hb1
  obtain ⟨c0, c1, c2, c3, c4, c5, hz1⟩ := cells6A hb1
  clear hb1
  go_wp2_with fail
  refine (HPU2.out _ HS3.out.co (Nat.le_trans hBw HS3.out.ch.bel.size)).mono ?_
  rintro x w4 ⟨rfl, hg2, hc2⟩
  have HG2 := Lib.hid hg2
  have HC2 := Lib.hid (HS3.out.ch.trans hc2)
  clear hg2 hc2
  go_wp2_with fail
  go_end0
  exact ⟨rfl, by have := HG2.out; rw [HL1.out] at this; simpa using this, HC2.out⟩

set_option maxRecDepth 100000 in
set_option maxHeartbeats 8000000 in
theorem part_asg (op s : ByteArray) (p q : Nat) (t : Tr) (iht : PartC t) (hop : op.size ≤ 100) (hs : ¬ s = sEmpty) (hn0 : ¬ op = ⟨#[110, 117, 109]⟩) (hn1 : ¬ op = ⟨#[110, 97, 109, 101]⟩) : PartC (.asg op s p q t) := by
  intro B cb kv l w h hBw hlay hlen
  have HAS : Hid (∀ X, CoAt B cb l X → ChC B w X → Calls Tryz.prog 120 #[.pointer (some ⟨cb, 0, none⟩), (Tr.asg op s p q t).v kv] X fun x w' => x = .returned (.tuple #[]) ∧ CoAt B cb (l ++ comp (.asg op s p q t) l.length) w' ∧ ChC B X w') := Lib.hid (fun X hX hC => by
    have hl := hlay.kept (fun k hk _ => hC.bel.block k hk) _ kv
    by_cases hx : trimE op = sEmpty
    · exact assign_eq op s p q t iht hop hx B cb kv l X hX (Nat.le_trans hBw hC.bel.size) hl hlen
    · exact assign_op op s p q t iht hop hx B cb kv l X hX (Nat.le_trans hBw hC.bel.size) hl hlen)
  obtain ⟨ko, km, kc, rfl⟩ := hlay.shape
  obtain ⟨pc, hpc⟩ : ∃ pc : Array Value, pc = #[.string op, .int .i64 0, .string s, .int .i64 p, .int .i64 q, .slice ko km kc] := ⟨_, rfl⟩
  obtain ⟨W, hW⟩ : ∃ W, W = box2 w cb pc := ⟨_, rfl⟩
  have HS0 : Hid (PtS B cb w.heap.size (w.heap.size + 1) w W #[.pointer (some ⟨cb, 0, none⟩)] 180 pc l W) := Lib.hid (by rw [hW]; exact box2_pts h hBw pc)
  have HWE : Hid (W = (w.alloc (.cells #[.pointer (some ⟨cb, 0, none⟩)] 180)).alloc (.cells #[.string op, .int .i64 0, .string s, .int .i64 p, .int .i64 q, .slice ko km kc] 60)) := Lib.hid (by rw [hW, hpc]; rfl)
  have HPC := Lib.hid hpc
  have tn0 := tl_no hn0
  have tn1 := tl_no hn1
  have ts := tl_someA hs
  clear h hlen hpc hW hlay iht hop hs hn0 hn1
  have d0 : W.cell? ⟨w.heap.size, 0, none⟩ = some (.pointer (some ⟨cb, 0, none⟩)) := (Lib.cell_of_heap HS0.out.b0 0).trans rfl
  have hb1 := HS0.out.b1
  rw [HPC.out] at hb1
  obtain ⟨c0, c1, c2, c3, c4, c5, hz1⟩ := cells6A hb1
  clear hb1
  show Calls Tryz.prog 88 #[.pointer (some ⟨cb, 0, none⟩), .agg #[.string op, .int .i64 0, .string s, .int .i64 p, .int .i64 q, .slice ko km kc]] w _
  go_enter Tryz.func88, Tryz.ntmps88
  go_upto_region 4 with fail
  rw [← HWE.out]
  go_wp2_with fail
  refine (HAS.out _ HS0.out.co HS0.out.ch).mono ?_
  rintro x w1 ⟨rfl, hg1, hc1⟩
  have HG1 := Lib.hid hg1
  have HC1 := Lib.hid (HS0.out.ch.trans hc1)
  clear hg1 hc1
  go_wp2_with fail
  go_end0
  exact ⟨rfl, HG1.out, HC1.out⟩
end Go.Proofs.YthpmkpnndbjflaaGreatDoor
