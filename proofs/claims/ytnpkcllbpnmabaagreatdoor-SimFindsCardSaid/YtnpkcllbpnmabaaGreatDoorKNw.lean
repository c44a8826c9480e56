import Derived.Test.YtnpkcllbpnmabaaGreatDoorKNm
import Derived.Test.YtnpkcllbpnmabaaGreatDoorNfBw
import Derived.Test.YtnpkcllbpnmabaaGreatDoorKRs
import Derived.Test.YtnpkcllbpnmabaaGreatDoorNfPl
import Derived.Deep.LoopGhost
namespace Go.Proofs.YtnpkcllbpnmabaaGreatDoor
set_option maxHeartbeats 8000000
set_option maxRecDepth 100000
open Go.RowKit Go.Shelf
attribute [local go_sem] Oper.semAt_some
theorem wpListIn_store_partC {F : Fence} {n : Nat} {P : Program} {ops : Array Oper} {rest : List Oper} {o : Oper} {a : Act} {w : World} {Q : Exit → Act → World → Prop} (hgd : o.guard = none) (ty : TypeId) (x y : Operand) (ho : o.op = .store ty x y) (hd : o.dst = none)
  (g i : Nat) (vs : List Value) (hx : a.eval x = .pointer (some ⟨g, i, none⟩)) (hy : a.eval y = .agg vs.toArray)
  (t : TypeId) (cur : Array Value) (hg : w.heap[g]? = some (.cells cur t (0, 0))) (hi : (P.info? ty).map (·.size) = some vs.length)
  (hc : i + vs.length ≤ cur.size) (h1 : vs.all (·.oneCell') = true) (C' : Array Value) (hC : (spl cur.toList i vs).toArray = C')
  (h : wpListIn F n P ops Q rest a (w.setRow g C')) : wpListIn F n P ops Q (o :: rest) a w := by
 subst hC
 refine wpListIn_plain hgd fun K hK => ?_
 unfold Oper.wpIn
 refine ⟨?_, ?_⟩
 ·simp [Oper.about, ho]
 ·rw [Oper.semAt_plain F _ _ (by rw [ho]; intro c hc'; cases hc')]
  unfold execOp
  simp only [ho, hx, hy, Instr.storeAt, Instr.sureAddr, Sem.run_bind, Sem.run_pure, Result.andThen_ok, run_storeVar_part w g i t ty cur vs hg hi hc h1]
  show K (a.put o.dst undef) _
  rw [hd]
  exact hK _ _ h
theorem row_freeN {X : World} {b : Nat} {cs : Array Value} {t : TypeId} (h : X.heap[b]? = some (.cells cs t (0, 0))) (i : Nat) : X.frozen? ⟨b, i, none⟩ = false := by
 simp [World.frozen?, h]
theorem spl_all (cur vs : List Value) (h : vs.length = cur.length) : spl cur 0 vs = vs := by
 unfold spl
 rw [List.take_zero, List.nil_append, List.drop_eq_nil_of_le (by omega), List.append_nil]
theorem turn_blk {base : Nat} {A A' : World} {row : Option Nat} {k : Nat} {c : Array Value} {T : TypeId} {z : Nat × Nat} (h : A.heap[k]? = some (.cells c T z)) (hg : A.grownBy A' row) (hr : ∀ r, row = some r → base ≤ r ∧ ∃ o : Obj, A.heap[r]? = some o ∧ o.isCells = false) : A'.heap[k]? = some (.cells c T z) :=
 (hg.block k (lt_blkB h) (fun e => by
  obtain ⟨_, o, ho, hoc⟩ := hr k e.symm
  rw [h] at ho
  rw [← Option.some.inj ho] at hoc
  cases hoc)).trans h
theorem GrAt.turn {B gb st base : Nat} {g : List St} {A A' : World} {row : Option Nat} (h : GrAt B gb g st A) (hg : A.grownBy A' row) (hr : ∀ r, row = some r → base ≤ r ∧ ∃ o : Obj, A.heap[r]? = some o ∧ o.isCells = false) : GrAt B gb g st A' := by
 obtain ⟨h0, v, h1, h2⟩ := h
 exact ⟨h0, v, turn_blk h1 hg hr, own_same h2 fun b _ cs hc => (turn_blk hc hg hr).trans hc.symm⟩
theorem ChG.turn {B base : Nat} {w A A' : World} {row : Option Nat} (h : ChG B w A) (hB : B ≤ w.heap.size) (hb : w.heap.size ≤ base) (hg : A.grownBy A' row) (hr : ∀ r, row = some r → base ≤ r ∧ ∃ o : Obj, A.heap[r]? = some o ∧ o.isCells = false) : ChG B w A' :=
 ⟨h.bel.grown hg (Nat.le_trans hB h.bel.size) (fun k e => by have := (hr k e).1; omega), fun i cs T z h1 h2 h3 => by
  have h4 := (h.oth i cs T z h1 h2 h3).trans h3
  exact (turn_blk h4 hg hr).trans h3.symm, ⟨Nat.le_trans h.kp.size hg.size, fun k o hk ho => (hg.block k (Nat.lt_of_lt_of_le (lt_blkB hk) h.kp.size) (fun e => by have := (hr k e.symm).1; have := lt_blkB hk; omega)).trans (h.kp.same k o hk ho)⟩⟩
theorem ChG.setNew {B : Nat} {w A : World} (h : ChG B w A) (hB : B ≤ w.heap.size) {x : Nat} (hx : w.heap.size ≤ x) (i : Nat) (y : Value) : ChG B w (A.setCell ⟨x, i, none⟩ y) :=
 ⟨h.bel.setCell (p := ⟨x, i, none⟩) (Nat.le_trans hB hx) _, fun k cs T z h1 h2 h3 => (Below.heap_setCell _ _ _ _ (by have := lt_blkB h3; simp; omega)).trans (h.oth k cs T z h1 h2 h3), h.kp.trans (KeepsOthers.setCell _ _ _)⟩
theorem GrAt.setInt {B gb st b : Nat} {g : List St} {X : World} {cs : Array Value} (h : GrAt B gb g st X) (hb : X.heap[b]? = some (.cells cs 3 (0, 0))) (i : Nat) (y : Value) : GrAt B gb g st (X.setCell ⟨b, i, none⟩ y) := by
 obtain ⟨h0, v, h1, h2⟩ := h
 exact ⟨h0, v, (Below.heap_setCell _ _ _ _ (by simp; intro e; subst e; rw [hb] at h1; simp at h1)).trans h1, own_set h2 hb (by decide) _ _⟩
theorem ChT.setInt {b : Nat} {X : World} {cs : Array Value} (hb : X.heap[b]? = some (.cells cs 3 (0, 0))) (i : Nat) (y : Value) : ChT X (X.setCell ⟨b, i, none⟩ y) := fun k c T z _ _ h3 h4 =>
 Below.heap_setCell _ _ _ _ (by simp; intro e; subst e; rw [hb] at h4; simp only [Option.some.injEq, Obj.cells.injEq] at h4; exact h3 h4.2.1.symm)
theorem blk_set1i {X : World} {b : Nat} {v y : Value} {T : TypeId} (h : X.heap[b]? = some (.cells #[v] T (0, 0))) : (X.setCell ⟨b, 0, none⟩ y).heap[b]? = some (.cells #[y] T (0, 0)) := by
 simp [World.setCell, Array.getElem?_modify, h]
theorem rowB_lenA {l : List Nd} (h : (fo l).Ok) (hl : 0 < l.length) (r : List St × Nat) (pre : List Nat) : (rowB l pre r).1.length ≤ r.1.length + pre.length * (fo l).W := by
 have := rowB_len h hl r pre.reverse
 rw [List.reverse_reverse, List.length_reverse] at this
 exact this
theorem rowB_goodA {l : List Nd} (h : (fo l).Ok) (hl : 0 < l.length) (r : List St × Nat) (hr : r.2 < r.1.length) (pre : List Nat) : (rowB l pre r).2 < (rowB l pre r).1.length := by
 have := rowB_good h hl r hr pre.reverse
 rw [List.reverse_reverse] at this
 exact this
theorem altB_lenA {l : List Nd} (h : (fo l).Ok) (hl : 0 < l.length) (nx : Nat) (r : List St × Nat) (pre : List Nat) : (altB l nx pre r).1.length ≤ r.1.length + pre.length * ((fo l).W + 1) := by
 have := altB_len h hl nx r pre.reverse
 rw [List.reverse_reverse, List.length_reverse] at this
 exact this
theorem altB_goodA {l : List Nd} (h : (fo l).Ok) (hl : 0 < l.length) (nx : Nat) (r : List St × Nat) (hr : nx < r.1.length) (pre : List Nat) : nx < (altB l nx pre r).1.length := by
 have := altB_good h hl nx r hr pre.reverse
 rw [List.reverse_reverse] at this
 exact this
theorem nd_one9 (n : Nd) (kv : Value) (h : ∃ a m c, kv = .slice a m c) : (n.cells kv).all (·.oneCell') = true := by
 obtain ⟨a, m, c, rfl⟩ := h
 exact List.all_eq_true.2 (cells_one9 n a m c)
theorem kids_vs {S : Nat → Prop} {w : World} {n : Nd} {l : List Nd} (hl : n.kids = fo l) {ka : Option Addr} {km kc : Nat} (hin : n.In w S (.slice ka km kc)) :
  km = l.length ∧ ∃ kvs : Nat → Value, (∀ x, ∃ a m c, kvs x = .slice a m c) ∧ (0 < l.length → ∀ x, (kidAt l x).In w S (kvs x)) ∧
   (l.length = 0 ∨ ∃ b cur, ka = some ⟨b, 0, none⟩ ∧ S b ∧ w.heap[b]? = some (.cells cur 57 (0, 0)) ∧ ∀ k, k < l.length → ∀ i u, ((kidAt l k).cells (kvs k))[i]? = some u → cur[k * 9 + i]? = some u) := by
 obtain ⟨ks, ⟨hown, hS⟩, hlay⟩ := hin
 rw [hl] at hlay hown
 rw [fo_len] at hown
 have hkm : km = l.length := by
  obtain ⟨_, cap, e⟩ := own_shapeR hown
  simp only [Value.slice.injEq] at e
  exact e.2.1
 refine ⟨hkm, ?_⟩
 have hch : ∀ x : Nat, ∃ kv : Value, (∃ a m c, kv = .slice a m c) ∧ (0 < l.length → (kidAt l x).In w S kv ∧ ∀ i, i < 9 → ks[min x (l.length - 1) * 9 + i]? = ((kidAt l x).cells kv)[i]?) := by
  intro x
  by_cases h0 : 0 < l.length
  ·have hx : min x (l.length - 1) < l.length := by omega
   obtain ⟨kv, h1, h2⟩ := lay_at hlay (List.getElem?_eq_getElem hx)
   have e : kidAt l x = l[min x (l.length - 1)] := by unfold kidAt; rw [List.getElem?_eq_getElem hx]; rfl
   rw [e]
   exact ⟨kv, h1.shape, fun _ => ⟨h1, h2⟩⟩
  ·exact ⟨nilS, ⟨_, _, _, rfl⟩, fun h => (h0 h).elim⟩
 obtain ⟨kvs, hk⟩ := Classical.axiomOfChoice hch
 refine ⟨kvs, fun x => (hk x).1, fun h x => ((hk x).2 h).1, ?_⟩
 obtain ⟨_, ⟨_, hz⟩ | ⟨g, cap, cur, hv, _, hg, hnc, _, hcs, htk⟩⟩ := hown
 ·exact Or.inl hz
 ·by_cases h0 : l.length = 0
  ·exact Or.inl h0
  simp only [Value.slice.injEq] at hv
  obtain ⟨rfl, _, rfl⟩ := hv
  refine Or.inr ⟨g, cur, rfl, hS g rfl, hg, fun k hkl i u hu => ?_⟩
  have h1 := ((hk k).2 (by omega)).2 i (by have := (List.getElem?_eq_some_iff.1 hu).1; rwa [Nd.cells_len] at this)
  rw [Nat.min_eq_left (by omega), hu, ← htk, List.getElem?_take] at h1
  split at h1
  ·simpa using h1
  ·cases h1
theorem part_row (N : Nat) (ih : PtOk N) (B gb st : Nat) (kd : Int) (p : Nat → Bool) (mn mx gp : Int) (l : List Nd) (ka : Option Addr) (km kc : Nat) (g : List St) (nx : Nat) (w : World) (hk : ¬ (kd = 1 ∨ kd = 2 ∨ kd = 3 ∨ kd = 5 ∨ kd = 6)) (h : GrAt B gb g st w) (hB : B ≤ w.heap.size)
  (hN : (fo l).nn ≤ N) (hok : (fo l).Ok) (hlt : (fo l).Lt) (hW : (fo l).W ≤ 4000) (hll : l.length ≤ 1100) (hlen : g.length + ((fo l).nn + 1) * 8000000 ≤ 1099511627776) (hnx : nx < g.length) (hin : Nd.In w (fun b => b < B) ⟨kd, p, mn, mx, gp, fo l⟩ (.slice ka km kc)) :
  Calls Tryz.prog 39 #[.pointer (some ⟨gb, 0, none⟩), Nd.v ⟨kd, p, mn, mx, gp, fo l⟩ (.slice ka km kc), .int .i64 (nx : Nat)] w (PtQ B gb st (Nd.B ⟨kd, p, mn, mx, gp, fo l⟩ g nx) w) := by
 obtain ⟨hkm, kvs, hks, hki, hkc⟩ := kids_vs (n := ⟨kd, p, mn, mx, gp, fo l⟩) (l := l) rfl hin
 subst hkm
 have n1 : ¬ kd = 1 := by omega
 have n2 : ¬ kd = 2 := by omega
 have n3 : ¬ kd = 3 := by omega
 have n5 : ¬ kd = 5 := by omega
 have n6 : ¬ kd = 6 := by omega
 obtain ⟨R, hR⟩ : ∃ R, R = Nd.B ⟨kd, p, mn, mx, gp, fo l⟩ g nx := ⟨_, rfl⟩
 rw [← hR]
 have HRES : Hid (R = rowB l (downL l.length l.length) (g, nx)) := Lib.hid (by
  rw [rowB_all, hR]
  unfold Nd.B ndB
  simp only [if_neg n1, if_neg n2, if_neg n3, if_neg n5, if_neg n6])
 have HG := Lib.hid h
 have HIN := Lib.hid hin
 have HKI := Lib.hid hki
 have HKC := Lib.hid hkc
 have HKS := Lib.hid hks
 have HOK := Lib.hid hok
 have HLT := Lib.hid hlt
 have HIH := Lib.hid ih
 have hnn := Fo.len_nn (fo l)
 rw [fo_len] at hnn
 clear h hin hki hkc hks hok hlt ih hk hR
 refine (callsIn_wide (n := 3)).1 ?_
 refine callsIn_of_wp_marks Tryz.func39 rfl trivial ?_ rfl
 simp only [Tryz.ntmps39, List.size_toArray, List.length_cons, List.length_nil, Nat.reduceAdd, Nat.reduceSub, Array.replicate_succ, Array.replicate_zero, List.push_toArray, List.append_toArray, List.nil_append, List.cons_append]
 unfold Nd.v Nd.cells
 gi_wp2_with (first | (refine ⟨trivial, ?_⟩; gi_at_call 66; refine (callsIn_wide.2 (bw_any _ _ _ _)).mono ?_; rintro e w' ⟨rfl, rfl⟩) | fail)
 obtain ⟨W0, hW0⟩ : ∃ W0, W0 = (((w.alloc (.cells #[.pointer (some ⟨gb, 0, none⟩)] 71)).alloc (.cells #[.int .i64 kd, .int .u64 (sw p 0 : Nat), .int .u64 (sw p 1 : Nat), .int .u64 (sw p 2 : Nat), .int .u64 (sw p 3 : Nat), .int .i64 mn, .int .i64 mx, .int .i64 gp, .slice ka l.length kc] 57)).alloc (.cells #[.int .i64 (nx : Nat)] 3)).alloc (.cells #[.slice ka l.length kc] 55) := ⟨_, rfl⟩
 rw [← hW0]
 have hb : Below w.heap.size w W0 := by rw [hW0]; exact ((((Below.refl _ _).alloc (Nat.le_refl _) _).alloc (by simp) _).alloc (by simp; omega) _).alloc (by simp; omega) _
 have hz0 : W0.heap.size = w.heap.size + 4 := by rw [hW0]; simp
 have hb0 : W0.heap[w.heap.size]? = some (.cells #[.pointer (some ⟨gb, 0, none⟩)] 71 (0, 0)) := by rw [hW0]; exact blk_alloc (blk_alloc (blk_alloc (alloc_last w _) _) _) _
 have hb2 : W0.heap[w.heap.size + 1 + 1]? = some (.cells #[.int .i64 (nx : Nat)] 3 (0, 0)) := by
  rw [hW0]
  refine blk_alloc ?_ _
  generalize hq : (w.alloc (.cells #[.pointer (some ⟨gb, 0, none⟩)] 71)).alloc (.cells #[.int .i64 kd, .int .u64 (sw p 0 : Nat), .int .u64 (sw p 1 : Nat), .int .u64 (sw p 2 : Nat), .int .u64 (sw p 3 : Nat), .int .i64 mn, .int .i64 mx, .int .i64 gp, .slice ka l.length kc] 57) = w2
  have hz : w2.heap.size = w.heap.size + 1 + 1 := by rw [← hq]; simp
  rw [← hz]
  exact alloc_last w2 _
 have hb3 : W0.heap[w.heap.size + 1 + 1 + 1]? = some (.cells #[.slice ka l.length kc] 55 (0, 0)) := by
  rw [hW0]
  generalize hq : ((w.alloc (.cells #[.pointer (some ⟨gb, 0, none⟩)] 71)).alloc (.cells #[.int .i64 kd, .int .u64 (sw p 0 : Nat), .int .u64 (sw p 1 : Nat), .int .u64 (sw p 2 : Nat), .int .u64 (sw p 3 : Nat), .int .i64 mn, .int .i64 mx, .int .i64 gp, .slice ka l.length kc] 57)).alloc (.cells #[.int .i64 (nx : Nat)] 3) = w2
  have hz : w2.heap.size = w.heap.size + 1 + 1 + 1 := by rw [← hq]; simp
  rw [← hz]
  exact alloc_last w2 _
 have HB := Lib.hid hb
 have hBW : B ≤ W0.heap.size := Nat.le_trans hB hb.size
 clear hW0 hb
 refine wpIn_rangeFunc_ownH rfl (by decide) (gf := 83) (lb := #[.pointer (some ⟨w.heap.size + 1 + 1 + 1, 0, none⟩)]) rfl trivial (enters_of Tryz.func83 (by kernel_rfl) rfl)
  (bw_stops Fence.wide 2 trivial rfl (by decide) (w.heap.size + 1 + 1 + 1) l.length kc ka (fun x => (kidAt l x).cells (kvs x)) (by omega) W0 hb3 (fun k => Nd.cells_len _ _) ?hI) ChT.trans (fun W l o o' _ h ho _ => ChT.put W l o o' h ho) (Below.refl _ _) (fun _ => rfl)
  (fun pre W => (GrAt B gb (rowB l pre (g, nx)).1 st W ∧ W.heap[w.heap.size]? = some (.cells #[.pointer (some ⟨gb, 0, none⟩)] 71 (0, 0)) ∧ W.heap[w.heap.size + 1 + 1]? = some (.cells #[.int .i64 ((rowB l pre (g, nx)).2 : Nat)] 3 (0, 0))) ∧ ChG B w W)
  (fun _ _ _ => False) ?own (fun _ _ _ _ _ hs _ _ => hs) ⟨⟨HG.out.below HB.out, hb0, hb2⟩, ChG.below HB.out hB⟩
  (fun x a' W => ∃ Bx, W.heap[Bx]? = some (.cells ((kidAt l x).cells (kvs x)).toArray 57 (0, 0)) ∧ a' = { tmps := #[.pointer (some ⟨gb, 0, none⟩), .agg #[.int .i64 kd, .int .u64 (sw p 0 : Nat), .int .u64 (sw p 1 : Nat), .int .u64 (sw p 2 : Nat), .int .u64 (sw p 3 : Nat), .int .i64 mn, .int .i64 mx, .int .i64 gp, .slice ka l.length kc], .int .i64 (nx : Nat), .pointer (some ⟨w.heap.size, 0, none⟩), .pointer (some ⟨w.heap.size + 1, 0, none⟩), .pointer (some ⟨w.heap.size + 1 + 1, 0, none⟩), .int .i64 0, undef, .pointer (some ⟨Bx, 0, none⟩), .pointer (some ⟨w.heap.size + 1, 0, none⟩), .int .i64 kd, .bool false, .bool false, undef, undef, undef, undef, undef, undef, .bool false, .bool false, undef, undef, undef, undef, .bool false, .bool false, undef, undef, undef, undef, .bool false, .bool false, undef, undef, undef, undef, undef, .bool false, .bool false, undef, undef, undef, undef, .pointer (some ⟨w.heap.size + 1, 8, none⟩), .slice ka l.length kc, .func (.func 83) #[] #[.pointer (some ⟨w.heap.size + 1 + 1 + 1, 0, none⟩)], .int .i64 (x : Nat), .agg ((kidAt l x).cells (kvs x)).toArray, undef, undef, undef, undef, undef], defers := [] })
  (fun x a' s A A' row hs hg hr => by obtain ⟨Bx, h1, h2⟩ := hs; exact ⟨Bx, turn_blk h1 hg hr, h2⟩) ?assign ?body ?done ?stop
 case hI =>
  rcases HKC.out with h0 | ⟨b, cur, h1, h2, h3, h4⟩
  ·exact Or.inl h0
  ·exact Or.inr ⟨b, cur, h1, (HB.out.block b (Nat.lt_of_lt_of_le h2 hB)).trans h3, h4⟩
 case own =>
  intro s A A' row hs hg hr
  exact ⟨⟨hs.1.1.turn hg hr, turn_blk hs.1.2.1 hg hr, turn_blk hs.1.2.2 hg hr⟩, hs.2.turn hB (by omega) hg hr⟩
 case assign =>
  intro l' pre x W K hi hK
  obtain ⟨xa, xm, xc, hxv⟩ := HKS.out x
  have HXV := Lib.hid hxv
  obtain ⟨W1, hW1⟩ : ∃ W1, W1 = W.alloc (.cells zero9 57) := ⟨_, rfl⟩
  have hk1 : W1.heap[W.heap.size]? = some (.cells zero9 57 (0, 0)) := by rw [hW1]; exact alloc_last W _
  have hlt1 : W.heap.size < W1.heap.size := lt_blkB hk1
  have hbel : Below W.heap.size W (W1.setRow W.heap.size ((kidAt l x).cells (kvs x)).toArray) := by rw [hW1]; exact below_setRow ((Below.refl _ _).alloc (Nat.le_refl _) _) (Nat.le_refl _) _
  have HK1 := Lib.hid hk1
  have HK := Lib.hid (hK _ (W1.setRow W.heap.size ((kidAt l x).cells (kvs x)).toArray) ((keeps_below hbel).from _) (ChG.below hbel (Nat.le_refl _)).t ⟨⟨hi.1.1.below hbel, blk_below hi.1.2.1 hbel, blk_below hi.1.2.2 hbel⟩, hi.2.trans (ChG.below hbel (Nat.le_trans hB hi.2.bel.size))⟩ ⟨W.heap.size, setRow_selfR hk1 _, rfl⟩)
  have HW1 := Lib.hid hW1
  have HN1 : Hid (((kidAt l x).cells (kvs x)).all (·.oneCell') = true) := Lib.hid (nd_one9 _ _ ⟨_, _, _, hxv⟩)
  have HSP : Hid ((spl zero9.toList 0 ((kidAt l x).cells (kvs x))).toArray = ((kidAt l x).cells (kvs x)).toArray) := Lib.hid (by rw [spl_all _ _ (by rw [Nd.cells_len]; rfl)])
  have HL9 : Hid (((kidAt l x).cells (kvs x)).length = 9) := Lib.hid (Nd.cells_len _ _)
  clear hk1 hbel hK hW1 hxv hi
  generalize (kidAt l x).cells (kvs x) = cs at *
  unfold zero9 at HW1
  gi_wp2_with (first | (rw [← HW1.out]; refine wpListIn_store_partC rfl 57 _ _ rfl rfl W.heap.size 0 cs rfl rfl 57 zero9 HK1.out (by rw [HL9.out]; exact nre_size) (by rw [HL9.out]; decide) HN1.out cs.toArray HSP.out ?_) | fail)
  exact HK.out
 case body =>
  rintro l' pre x a' W hl' ⟨lr, hlr⟩ ⟨⟨hg, hx0, hx2⟩, hc⟩ ⟨Bx, hBx, rfl⟩ hplt
  have hl0 : 0 < l.length := by omega
  have hm1 : pre.length * (fo l).W ≤ 1100 * 4000 := Nat.mul_le_mul (by omega) hW
  have hrl := rowB_lenA HOK.out hl0 (g, nx) pre
  have hrg := rowB_goodA HOK.out hl0 (g, nx) hnx pre
  have hnk : (kidAt l x).nn ≤ (fo l).nn := by
   unfold kidAt
   rw [List.getElem?_eq_getElem (by omega)]
   exact nn_at l _ _
  have hlk : (kidAt l x).Lt := by
   unfold kidAt
   rw [List.getElem?_eq_getElem (by omega)]
   exact lt_at l HLT.out _ _
  have hmul : (kidAt l x).nn * 8000000 ≤ (fo l).nn * 8000000 := Nat.mul_le_mul_right _ hnk
  have hkin : (kidAt l x).In W (fun b => b < B) (kvs x) := (HKI.out hl0 x).kept fun k hk _ _ => hc.bel.block k hk
  have HC := Lib.hid (HIH.out B gb st (kidAt l x) (kvs x) (rowB l pre (g, nx)).1 (rowB l pre (g, nx)).2 W (by omega) (kidAt_ok HOK.out hl0 x) hlk (by have h0 : (g, nx).1.length = g.length := rfl; rw [h0] at hrl; omega) hrg hg (Nat.le_trans hB hc.bel.size) hkin)
  have HSN : Hid (rowB l (pre ++ [x]) (g, nx) = (kidAt l x).B (rowB l pre (g, nx)).1 (rowB l pre (g, nx)).2) := Lib.hid (rowB_snoc l pre x (g, nx))
  have HL9 : Hid (((kidAt l x).cells (kvs x)).length = 9) := Lib.hid (Nd.cells_len _ _)
  have HX0 := Lib.hid hx0
  have HX2 := Lib.hid hx2
  have HBX := Lib.hid hBx
  have HCW := Lib.hid hc
  have c0 : W.cell? ⟨w.heap.size, 0, none⟩ = some (.pointer (some ⟨gb, 0, none⟩)) := (Lib.cell_of_heap hx0 0).trans rfl
  have c2 : W.cell? ⟨w.heap.size + 1 + 1, 0, none⟩ = some (.int .i64 ((rowB l pre (g, nx)).2 : Nat)) := (Lib.cell_of_heap hx2 0).trans rfl
  have hxl := lt_blkB hx2
  have hbl := lt_blkB hBx
  have h12 : 1 ≤ 3 - 1 - 1 := by decide
  unfold Nd.v PtQ at HC
  clear hg hx0 hx2 hc hBx hlr hrl hrg hnk hlk hmul hkin hm1
  generalize (rowB l pre (g, nx)).1 = g1 at *
  generalize (rowB l pre (g, nx)).2 = s1 at *
  generalize (kidAt l x).B g1 s1 = R1 at *
  generalize (kidAt l x).cells (kvs x) = cs at *
  gi_wp2_with (first | (refine wpListIn_load_part rfl 57 _ rfl Bx 0 rfl _ cs.toArray cs (0, 0) _ HBX.out (fun j u hu => by rw [Nat.zero_add]; simpa using hu) Tryz.underlying57 rfl (by rw [HL9.out]; exact nre_size) ?_) | (refine ⟨trivial, ?_⟩; gi_at_call 39; refine (CallsIn.inRound l' (callsIn_wide.2 HC.out)).mono ?_; rintro e w1 ⟨rfl, hg1, hc1⟩; have HG1 := Lib.hid hg1; have HC1 := Lib.hid hc1; have hx2' := HC1.out.blk HX2.out (by decide) (by decide); have HX2' := Lib.hid hx2'; have c2' : w1.cell? ⟨w.heap.size + 1 + 1, 0, none⟩ = some (.int .i64 (s1 : Nat)) := (Lib.cell_of_heap hx2' 0).trans rfl; have f2' : w1.frozen? ⟨w.heap.size + 1 + 1, 0, none⟩ = false := row_freeN hx2' 0; have hxl' := lt_blkB hx2'; clear hg1 hc1 hx2') | fail)
  show KeepsFrom _ _ _ ∧ ChT _ _ ∧ (GrAt B gb (rowB l (pre ++ [x]) (g, nx)).1 st _ ∧ _ ∧ _ = some (Obj.cells #[.int .i64 ((rowB l (pre ++ [x]) (g, nx)).2 : Nat)] 3 (0, 0))) ∧ _
  rw [HSN.out]
  refine ⟨(HC1.out.kp.trans (KeepsOthers.setCell _ _ _)).from _, HC1.out.t.trans (ChT.setInt HX2'.out _ _), ⟨HG1.out.setInt HX2'.out _ _, (Below.heap_setCell _ _ _ _ (by simp; omega)).trans (HC1.out.blk HX0.out (by decide) (by decide)), blk_set1i HX2'.out⟩, (HCW.out.trans HC1.out).setNew hB (by omega) _ _⟩
 case done =>
  rintro D ys W hD rfl ⟨⟨hg, hx0, hx2⟩, hc⟩ hK
  have hres := HRES.out
  subst hres
  have c2 : W.cell? ⟨w.heap.size + 1 + 1, 0, none⟩ = some (.int .i64 ((rowB l (downL l.length l.length) (g, nx)).2 : Nat)) := (Lib.cell_of_heap hx2 0).trans rfl
  have hxl := lt_blkB hx2
  have HGX := Lib.hid hg
  have HCX := Lib.hid hc
  have HKK := Lib.hid hK
  clear hg hx0 hx2 hc hK
  gi_wp2
  refine ⟨by simp, .inl ⟨_, _, rfl, run_takeDeferred HKK.out, ?_⟩⟩
  have hgr := grownBy_putObj' W D (.deferred none)
  have hr : ∀ r, some D = some r → W0.heap.size ≤ r ∧ ∃ o : Obj, W.heap[r]? = some o ∧ o.isCells = false := fun r e => by cases e; exact ⟨hD, _, HKK.out, rfl⟩
  exact ⟨_, results_tmp rfl _ _ _, rfl, HGX.out.turn hgr hr, HCX.out.turn hB (by omega) hgr hr⟩
 case stop =>
  rintro D c pre W _ _ h _
  exact h.elim
end Go.Proofs.YtnpkcllbpnmabaaGreatDoor
namespace Go.Proofs.YtnpkcllbpnmabaaGreatDoor
set_option maxHeartbeats 8000000
set_option maxRecDepth 100000
open Go.RowKit
def WtQ (k : Nat) (w : World) (x : Ending) (w' : World) : Prop := x = .returned (.int .i64 ((min k 4001 : Nat) : Int)) ∧ Below w.heap.size w w'
def WtOk (N : Nat) : Prop := ∀ (S : Nat → Prop) (nd : Nd) (kv : Value) (w : World), nd.nn ≤ N → nd.nn ≤ 1100 → nd.Ok → nd.In w S kv → Calls Tryz.prog 37 #[nd.v kv] w (WtQ nd.W w)
theorem kid_one' {S : Nat → Prop} {w : World} {n x : Nd} (hl : n.kids = fo [x]) {ka : Option Addr} {km kc : Nat} (hin : n.In w S (.slice ka km kc)) :
  km = 1 ∧ ∃ kv kb cur, (∃ a m c, kv = .slice a m c) ∧ x.In w S kv ∧ ka = some ⟨kb, 0, none⟩ ∧ S kb ∧ w.heap[kb]? = some (.cells cur 57 (0, 0)) ∧ ∀ i u, (x.cells kv)[i]? = some u → cur[0 + i]? = some u := by
 obtain ⟨h1, kvs, h2, h3, h4⟩ := kids_vs hl hin
 have e : kidAt [x] 0 = x := rfl
 rcases h4 with h4 | ⟨b, cur, h5, h6, h7, h8⟩
 ·cases h4
 ·refine ⟨h1, kvs 0, b, cur, h2 0, by have := h3 (by simp) 0; rwa [e] at this, h5, h6, h7, fun i u hu => ?_⟩
  have := h8 0 (by simp) i u (by rw [e]; exact hu)
  rwa [Nat.zero_mul] at this
theorem sat_rep (m k : Nat) : min (m * min k 4001 + 1) 4001 = min (m * k + 1) 4001 := by
 by_cases h : k ≤ 4001
 ·rw [Nat.min_eq_left h]
 ·rw [Nat.min_eq_right (by omega : 4001 ≤ k)]
  cases m with
  | zero => simp
  | succ m =>
   rw [Nat.succ_mul, Nat.succ_mul]
   omega
theorem sat_max (m k d : Nat) : min (m * min k 4001 + d) 4001 = min (m * k + d) 4001 := by
 by_cases h : k ≤ 4001
 ·rw [Nat.min_eq_left h]
 ·rw [Nat.min_eq_right (by omega : 4001 ≤ k)]
  cases m with
  | zero => simp
  | succ m =>
   rw [Nat.succ_mul, Nat.succ_mul]
   omega
theorem weightRep_any (N : Nat) (ih : WtOk N) (S : Nat → Prop) (kd : Int) (p : Nat → Bool) (mn mx gp : Int) (x : Nd) (ka : Option Addr) (km kc : Nat) (w : World) (h0 : 0 ≤ mn) (hx : mx = -1 ∨ mn ≤ mx) (hmn : mn ≤ 255) (hmx : mx ≤ 255) (hN : x.nn ≤ N) (hn : x.nn ≤ 1100) (hok : x.Ok) (hin : Nd.In w S ⟨kd, p, mn, mx, gp, fo [x]⟩ (.slice ka km kc)) :
  Calls Tryz.prog 62 #[Nd.v ⟨kd, p, mn, mx, gp, fo [x]⟩ (.slice ka km kc)] w (WtQ (if mx < 0 then (mn.toNat + 1) * x.W + 1 else mx.toNat * x.W + (mx.toNat - mn.toNat)) w) := by
 obtain ⟨rfl, kv, kb, cur, hkv, hxi, rfl, hkb, hcur, hcl⟩ := kid_one' rfl hin
 obtain ⟨cs, hcs⟩ : ∃ cs, cs = x.cells kv := ⟨_, rfl⟩
 rw [← hcs] at hcl
 obtain ⟨W1, hW1⟩ : ∃ W1, W1 = w.alloc (.cells #[.int .i64 kd, .int .u64 (sw p 0 : Nat), .int .u64 (sw p 1 : Nat), .int .u64 (sw p 2 : Nat), .int .u64 (sw p 3 : Nat), .int .i64 mn, .int .i64 mx, .int .i64 gp, .slice (some ⟨kb, 0, none⟩) 1 kc] 57) := ⟨_, rfl⟩
 have hb1 : Below w.heap.size w W1 := by rw [hW1]; exact (Below.refl _ _).alloc (Nat.le_refl _) _
 have hr1 : W1.heap[w.heap.size]? = some (.cells #[.int .i64 kd, .int .u64 (sw p 0 : Nat), .int .u64 (sw p 1 : Nat), .int .u64 (sw p 2 : Nat), .int .u64 (sw p 3 : Nat), .int .i64 mn, .int .i64 mx, .int .i64 gp, .slice (some ⟨kb, 0, none⟩) 1 kc] 57 (0, 0)) := by rw [hW1]; exact alloc_last w _
 have HK := Lib.hid (ih S x kv W1 hN hn hok (hxi.below hb1))
 unfold WtQ Nd.v at HK
 rw [← hcs] at HK
 have HRW : Hid (W1.heap[kb]? = some (.cells cur 57 (0, 0))) := Lib.hid (blk_below hcur hb1)
 have HCL := Lib.hid hcl
 have HL9 : Hid (cs.length = 9) := Lib.hid (by rw [hcs]; exact Nd.cells_len _ _)
 have HR1 := Lib.hid hr1
 have HB1 := Lib.hid hb1
 obtain ⟨r0, r1, r2, r3, r4, r5, r6, r7, r8, rz⟩ := cells9s hr1
 obtain ⟨q, hq⟩ : ∃ q, q = min x.W 4001 := ⟨_, rfl⟩
 have hq4 : q ≤ 4001 := by rw [hq]; exact Nat.min_le_right _ _
 have HQ1 : Hid (min ((mn.toNat + 1) * q + 1) 4001 = min ((mn.toNat + 1) * x.W + 1) 4001) := Lib.hid (by rw [hq]; exact sat_rep _ _)
 have HQ2 : Hid (min (mx.toNat * q + (mx.toNat - mn.toNat)) 4001 = min (mx.toNat * x.W + (mx.toNat - mn.toNat)) 4001) := Lib.hid (by rw [hq]; exact sat_max _ _ _)
 rw [← hq] at HK
 have HWE := Lib.hid hW1
 clear hcs hcl hW1 hb1 hr1 hxi hcur hq ih hin hkv
 unfold WtQ
 by_cases hm : mx < 0
 ·obtain rfl : mx = -1 := by omega
  rw [if_pos hm]
  obtain ⟨m, hmm⟩ : ∃ m, m = mn.toNat := ⟨_, rfl⟩
  rw [← hmm] at HQ1 ⊢
  obtain rfl : mn = (m : Int) := by omega
  have hmul : (m + 1) * q ≤ 256 * 4001 := Nat.mul_le_mul (by omega) hq4
  have HPL := Lib.hid (plus_any ((m + 1) * q) 1 (by omega))
  have hcast : (((m + 1) * q : Nat) : Int) = ((m : Int) + 1) * (q : Int) := by rw [Int.natCast_mul]; rfl
  have hb1 : ((m : Int) + 1) * (q : Int) ≤ 1024256 := by rw [← hcast]; omega
  have hb2 : 0 ≤ ((m : Int) + 1) * (q : Int) := by rw [← hcast]; omega
  rw [hcast] at HPL
  clear hm hmm hcast hmul
  unfold Nd.v Nd.cells
  go_enter Tryz.func62, Tryz.ntmps62
  go_upto_region 1 with fail
  rw [← HWE.out]
  go_wp2_with (first | (refine wpList_load_part rfl 57 _ rfl kb 0 rfl _ cur cs (0, 0) _ HRW.out HCL.out Tryz.underlying57 rfl (by rw [HL9.out]; exact nre_size) ?_) | fail)
  refine HK.out.mono ?_
  rintro r W2 ⟨rfl, hb⟩
  have HB2 := Lib.hid (HB1.out.trans (hb.mono HB1.out.size))
  clear r0 r1 r2 r3 r4 r5 r6 r7 r8 rz
  obtain ⟨r0, r1, r2, r3, r4, r5, r6, r7, r8, rz⟩ := cells9s (blk_below HR1.out hb)
  clear hb
  go_wp2_with fail
  refine (HPL.out W2).mono ?_
  rintro r W3 ⟨rfl, rfl⟩
  rw [HQ1.out]
  go_wp2
  go_ret
  exact ⟨rfl, HB2.out⟩
 ·rw [if_neg hm]
  obtain ⟨m, hmm⟩ : ∃ m, m = mn.toNat := ⟨_, rfl⟩
  obtain ⟨k, hkk⟩ : ∃ k, k = mx.toNat := ⟨_, rfl⟩
  rw [← hmm, ← hkk] at HQ2 ⊢
  obtain rfl : mn = (m : Int) := by omega
  obtain rfl : mx = (k : Int) := by omega
  have hmul : k * q ≤ 255 * 4001 := Nat.mul_le_mul (by omega) hq4
  have HPL := Lib.hid (plus_any (k * q) (k - m) (by omega))
  have hcast : ((k * q : Nat) : Int) = (k : Int) * (q : Int) := Int.natCast_mul _ _
  have hsub : ((k - m : Nat) : Int) = (k : Int) - (m : Int) := by omega
  have hb1 : (k : Int) * (q : Int) ≤ 1020255 := by rw [← hcast]; omega
  have hb2 : 0 ≤ (k : Int) * (q : Int) := by rw [← hcast]; omega
  have hkm : (m : Int) ≤ (k : Int) := by omega
  have hk5 : (k : Int) ≤ 255 := hmx
  have hkn : ¬ (k : Int) < 0 := hm
  rw [hcast, hsub] at HPL
  clear hmm hcast hmul hsub hm hkk
  unfold Nd.v Nd.cells
  go_enter Tryz.func62, Tryz.ntmps62
  go_upto_region 1 with fail
  rw [← HWE.out]
  go_wp2_with (first | (refine wpList_load_part rfl 57 _ rfl kb 0 rfl _ cur cs (0, 0) _ HRW.out HCL.out Tryz.underlying57 rfl (by rw [HL9.out]; exact nre_size) ?_) | fail)
  refine HK.out.mono ?_
  rintro r W2 ⟨rfl, hb⟩
  have HB2 := Lib.hid (HB1.out.trans (hb.mono HB1.out.size))
  clear r0 r1 r2 r3 r4 r5 r6 r7 r8 rz
  obtain ⟨r0, r1, r2, r3, r4, r5, r6, r7, r8, rz⟩ := cells9s (blk_below HR1.out hb)
  clear hb
  go_wp2_with fail
  refine (HPL.out W2).mono ?_
  rintro r W3 ⟨rfl, rfl⟩
  rw [HQ2.out]
  go_wp2
  go_ret
  exact ⟨rfl, HB2.out⟩
theorem wTake : ∀ (l : List Nd) (k : Nat) (h : k < l.length), (fo (l.take (k + 1))).W = (fo (l.take k)).W + (l[k]).W
 | n :: r, 0, _ => by show n.W + 0 = 0 + n.W; omega
 | n :: r, k + 1, h => by
  have := wTake r k (by simpa using h)
  show n.W + (fo (r.take (k + 1))).W = n.W + (fo (r.take k)).W + (r[k]'(by simpa using h)).W
  omega
def wF (l : List Nd) (d k : Nat) : Nat := min ((fo (l.take k)).W + d) 4001
theorem wF_zero (l : List Nd) {d : Nat} (h : d ≤ 4001) : wF l d 0 = d := by
 unfold wF
 rw [List.take_zero]
 show min (0 + d) 4001 = d
 omega
theorem wF_succ (l : List Nd) (d k : Nat) (h : k < l.length) : min (wF l d k + min (l[k]).W 4001) 4001 = wF l d (k + 1) := by
 unfold wF
 rw [wTake l k h]
 omega
theorem wF_all (l : List Nd) (d : Nat) : wF l d l.length = min ((fo l).W + d) 4001 := by
 unfold wF
 rw [List.take_length]
theorem wF_le (l : List Nd) (d k : Nat) : wF l d k ≤ 4001 := Nat.min_le_right _ _
theorem weight_leaf (kd : Int) (p : Nat → Bool) (mn mx gp : Int) (kids : Fo) (kv : Value) (w : World) (hk : kd = 1 ∨ kd = 2 ∨ kd = 3) (hkv : ∃ a m c, kv = .slice a m c) :
  Calls Tryz.prog 37 #[Nd.v ⟨kd, p, mn, mx, gp, kids⟩ kv] w (WtQ 1 w) := by
 obtain ⟨ka, km, kc, rfl⟩ := hkv
 obtain ⟨W, hW⟩ : ∃ W, W = w.alloc (.cells #[.int .i64 kd, .int .u64 (sw p 0 : Nat), .int .u64 (sw p 1 : Nat), .int .u64 (sw p 2 : Nat), .int .u64 (sw p 3 : Nat), .int .i64 mn, .int .i64 mx, .int .i64 gp, .slice ka km kc] 57) := ⟨_, rfl⟩
 have hb : Below w.heap.size w W := by rw [hW]; exact (Below.refl _ _).alloc (Nat.le_refl _) _
 have hr1 : W.heap[w.heap.size]? = some (.cells #[.int .i64 kd, .int .u64 (sw p 0 : Nat), .int .u64 (sw p 1 : Nat), .int .u64 (sw p 2 : Nat), .int .u64 (sw p 3 : Nat), .int .i64 mn, .int .i64 mx, .int .i64 gp, .slice ka km kc] 57 (0, 0)) := by rw [hW]; exact alloc_last w _
 have HB := Lib.hid hb
 have HWE := Lib.hid hW
 obtain ⟨r0, r1, r2, r3, r4, r5, r6, r7, r8, rz⟩ := cells9s hr1
 clear hb hr1 hW
 have hmin : ((min 1 4001 : Nat) : Int) = 1 := rfl
 unfold WtQ
 rw [hmin]
 unfold Nd.v Nd.cells
 rcases hk with rfl | rfl | rfl
 all_goals
  go_enter Tryz.func37, Tryz.ntmps37
  go_upto_region 1 with fail
  rw [← HWE.out]
  go_wp2
  go_ret
  exact ⟨rfl, HB.out⟩
theorem weight_rep (p : Nat → Bool) (mn mx gp : Int) (kids : Fo) (kv : Value) (w : World) (k : Nat) (hkv : ∃ a m c, kv = .slice a m c)
  (hc : ∀ X, Below w.heap.size w X → Calls Tryz.prog 62 #[Nd.v ⟨6, p, mn, mx, gp, kids⟩ kv] X (WtQ k X)) :
  Calls Tryz.prog 37 #[Nd.v ⟨6, p, mn, mx, gp, kids⟩ kv] w (WtQ k w) := by
 obtain ⟨ka, km, kc, rfl⟩ := hkv
 obtain ⟨W, hW⟩ : ∃ W, W = w.alloc (.cells #[.int .i64 6, .int .u64 (sw p 0 : Nat), .int .u64 (sw p 1 : Nat), .int .u64 (sw p 2 : Nat), .int .u64 (sw p 3 : Nat), .int .i64 mn, .int .i64 mx, .int .i64 gp, .slice ka km kc] 57) := ⟨_, rfl⟩
 have hb : Below w.heap.size w W := by rw [hW]; exact (Below.refl _ _).alloc (Nat.le_refl _) _
 have hr1 : W.heap[w.heap.size]? = some (.cells #[.int .i64 6, .int .u64 (sw p 0 : Nat), .int .u64 (sw p 1 : Nat), .int .u64 (sw p 2 : Nat), .int .u64 (sw p 3 : Nat), .int .i64 mn, .int .i64 mx, .int .i64 gp, .slice ka km kc] 57 (0, 0)) := by rw [hW]; exact alloc_last w _
 have HB := Lib.hid hb
 have HB1 := Lib.hid hr1
 have HWE := Lib.hid hW
 have HX := Lib.hid (hc W hb)
 obtain ⟨r0, r1, r2, r3, r4, r5, r6, r7, r8, rz⟩ := cells9s hr1
 clear hb hr1 hW hc
 obtain ⟨q, hq⟩ : ∃ q : Nat, q = min k 4001 := ⟨_, rfl⟩
 unfold WtQ at HX ⊢
 rw [← hq] at HX ⊢
 clear hq
 unfold Nd.v Nd.cells at HX ⊢
 go_enter Tryz.func37, Tryz.ntmps37
 go_upto_region 1 with fail
 rw [← HWE.out]
 go_wp2_with (first | (refine wpList_load_row rfl 57 _ rfl w.heap.size rfl _ _ (0, 0) _ HB1.out Tryz.underlying57 rfl nre_size ?_) | fail)
 refine HX.out.mono ?_
 rintro x w1 ⟨rfl, hb1⟩
 have HC1 := Lib.hid hb1
 clear hb1
 go_wp2
 go_ret
 exact ⟨rfl, HB.out.trans (HC1.out.mono HB.out.size)⟩
set_option maxHeartbeats 16000000 in
theorem weight_alt (N : Nat) (ih : WtOk N) (S : Nat → Prop) (p : Nat → Bool) (mn mx gp : Int) (l : List Nd) (ka : Option Addr) (km kc : Nat) (w : World) (hN : (fo l).nn ≤ N) (hn : (fo l).nn ≤ 1100) (hok : (fo l).Ok) (hin : Nd.In w S ⟨5, p, mn, mx, gp, fo l⟩ (.slice ka km kc)) (hl0 : 0 < l.length) :
  Calls Tryz.prog 37 #[Nd.v ⟨5, p, mn, mx, gp, fo l⟩ (.slice ka km kc)] w (WtQ ((fo l).W + (l.length - 1)) w) := by
 obtain ⟨hkm, kvs, hks, hki, hkc⟩ := kids_vs (n := ⟨5, p, mn, mx, gp, fo l⟩) (l := l) rfl hin
 subst hkm
 have hll := Fo.len_nn (fo l)
 rw [fo_len] at hll
 have HCALL : Hid (∀ k (h : k < l.length) X, Below w.heap.size w X → Calls Tryz.prog 37 #[(l[k]).v (kvs k)] X (WtQ (l[k]).W X)) := Lib.hid (fun k h X hX => by
  have h1 := nn_at l k h
  have h2 := hki (by omega) k
  rw [kidAt_lt h] at h2
  exact ih S _ _ X (by omega) (by omega) (ok_at l hok k h) (h2.below hX))
 have HKC : Hid (∀ k (h : k < l.length), ∃ b cur, ka = some ⟨b, 0, none⟩ ∧ b < w.heap.size ∧ w.heap[b]? = some (.cells cur 57 (0, 0)) ∧ ∀ i u, ((l[k]).cells (kvs k))[i]? = some u → cur[k * 9 + i]? = some u) := Lib.hid (fun k h => by
  rcases hkc with h0 | ⟨b, cur, h5, h6, h7, h8⟩
  ·omega
  ·refine ⟨b, cur, h5, lt_blkB h7, h7, fun i u hu => h8 k h i u ?_⟩
   rw [kidAt_lt h]
   exact hu)
 have HKS := Lib.hid hks
 obtain ⟨F, hF⟩ : ∃ F, F = wF l ((l.length - 1)) := ⟨_, rfl⟩
 have HF0 : Hid (F 0 = (l.length - 1)) := Lib.hid (by rw [hF]; exact wF_zero l (by omega))
 have HFS : Hid (∀ k (h : k < l.length), min (F k + min (l[k]).W 4001) 4001 = F (k + 1)) := Lib.hid (fun k h => by rw [hF]; exact wF_succ l _ k h)
 have HFA : Hid (min ((fo l).W + (l.length - 1)) 4001 = F l.length) := Lib.hid (by rw [hF]; exact (wF_all l _).symm)
 have hFL : ∀ k, F k ≤ 4001 := fun k => by rw [hF]; exact wF_le l _ k
 have hDL : (l.length - 1) ≤ 1100 := by omega
 clear hF hkc hks hki hin hok ih
 obtain ⟨W, hW⟩ : ∃ W, W = w.alloc (.cells #[.int .i64 5, .int .u64 (sw p 0 : Nat), .int .u64 (sw p 1 : Nat), .int .u64 (sw p 2 : Nat), .int .u64 (sw p 3 : Nat), .int .i64 mn, .int .i64 mx, .int .i64 gp, .slice ka l.length kc] 57) := ⟨_, rfl⟩
 have hb : Below w.heap.size w W := by rw [hW]; exact (Below.refl _ _).alloc (Nat.le_refl _) _
 have hr1 : W.heap[w.heap.size]? = some (.cells #[.int .i64 5, .int .u64 (sw p 0 : Nat), .int .u64 (sw p 1 : Nat), .int .u64 (sw p 2 : Nat), .int .u64 (sw p 3 : Nat), .int .i64 mn, .int .i64 mx, .int .i64 gp, .slice ka l.length kc] 57 (0, 0)) := by rw [hW]; exact alloc_last w _
 have HB := Lib.hid hb
 have HWE := Lib.hid hW
 obtain ⟨r0, r1, r2, r3, r4, r5, r6, r7, r8, rz⟩ := cells9s hr1
 clear hb hr1 hW
 unfold WtQ
 rw [HFA.out]
 unfold Nd.v Nd.cells
 go_enter Tryz.func37, Tryz.ntmps37
 go_upto_region 1 with fail
 rw [← HWE.out]
 clear HWE
 go_upto_region 12 with fail
 have hsub : (l.length : Int) - 1 = ((l.length - 1 : Nat) : Int) := by omega
 rw [hsub]
 clear r0 r1 r2 r3 r4 r5 r6 r7 r8 rz
 go_loopg [3, 25] l.length (fun gh s3 s25 X => ∃ k : Nat, gh = l.length - k ∧ k ≤ l.length ∧ s3 = .int .i64 (F k : Nat) ∧ s25 = .int .i64 (k : Nat) ∧ Aside (Below w.heap.size w X))
 case atStart => exact ⟨0, by omega, Nat.zero_le _, by rw [HF0.out], rfl, HB.out⟩
 case round =>
  obtain ⟨k, hgh, hk, rfl, rfl, hal⟩ := hrel
  have HGH := Lib.hid hgh
  have HBK := Lib.hid hal.out
  clear hal hgh
  by_cases hlt : k < l.length
  ·have hlti : (k : Int) < (l.length : Int) := by omega
   have hk0 : (0 : Int) ≤ (k : Int) := by omega
   obtain ⟨kb, cur, rfl, hkb, hcur, hcl⟩ := HKC.out k hlt
   have hX : wr.heap[kb]? = some (.cells cur 57 (0, 0)) := (HBK.out.block kb hkb).trans hcur
   have hgk := lt_blkB hX
   obtain ⟨q, hq⟩ : ∃ q : Nat, q = min (l[k]).W 4001 := ⟨_, rfl⟩
   have hq4 : q ≤ 4001 := by rw [hq]; exact Nat.min_le_right _ _
   have HCX : Hid (∀ X, Below w.heap.size w X → Calls Tryz.prog 37 #[(l[k]).v (kvs k)] X (fun r w' => r = .returned (.int .i64 (q : Nat)) ∧ Below X.heap.size X w')) := Lib.hid (fun X hX => by rw [hq]; exact HCALL.out k hlt X hX)
   have HFQ : Hid (min (F k + q) 4001 = F (k + 1)) := Lib.hid (by rw [hq]; exact HFS.out k hlt)
   obtain ⟨cs, hcs⟩ : ∃ cs, cs = (l[k]).cells (kvs k) := ⟨_, rfl⟩
   have HC1 : Hid (cs.toArray.all (·.oneCell') = true) := Lib.hid (by rw [hcs]; have := nd_one9 l[k] (kvs k) (HKS.out k); simpa using this)
   have HL9 : Hid (cs.length = 9) := Lib.hid (by rw [hcs]; exact Nd.cells_len _ _)
   have HCL : Hid (∀ i u, cs[i]? = some u → cur[k * 9 + i]? = some u) := Lib.hid (by rw [hcs]; exact hcl)
   unfold Nd.v at HCX
   rw [← hcs] at HCX
   have HX := Lib.hid hX
   obtain ⟨W5, hW5⟩ : ∃ W5, W5 = wr.alloc (.cells zero9 57) := ⟨_, rfl⟩
   have HT5 : Hid (W5.heap[wr.heap.size]? = some (.cells zero9 57 (0, 0))) := Lib.hid (by rw [hW5]; exact alloc_last _ _)
   obtain ⟨W6, hW6⟩ : ∃ W6, W6 = W5.setRow wr.heap.size cs.toArray := ⟨_, rfl⟩
   have hb6 : Below wr.heap.size wr W6 := by rw [hW6, hW5]; exact below_setRow ((Below.refl _ _).alloc (Nat.le_refl _) _) (Nat.le_refl _) _
   have HT6 : Hid (W6.heap[wr.heap.size]? = some (.cells cs.toArray 57 (0, 0))) := Lib.hid (by rw [hW6]; exact setRow_selfR HT5.out _)
   have HB6 : Hid (Below w.heap.size w W6) := Lib.hid (HBK.out.trans (hb6.mono HBK.out.size))
   have hz6 : wr.heap.size < W6.heap.size := lt_blkB HT6.out
   have HW5 := Lib.hid hW5
   have HW6 := Lib.hid hW6
   have hFk := hFL k
   have HPL := Lib.hid (plus_any (F k) q (by omega))
   rw [HFQ.out] at HPL
   clear hcs hcl hcur hX hq hW5 hW6 hb6
   unfold zero9 at HW5 HT5
   generalize hFkk : F k = fk at *
   go_wp2_with (first | (refine wpList_load_part rfl 57 _ rfl kb (k * 9) rfl _ cur cs (0, 0) _ HX.out HCL.out Tryz.underlying57 rfl (by rw [HL9.out]; exact nre_size) ?_) | (rw [← HW5.out]; refine wpList_store_rowTo rfl 57 _ _ rfl rfl wr.heap.size cs.toArray rfl rfl _ _ HT5.out (by rw [List.size_toArray, HL9.out]; exact nre_size) (by show 9 = cs.length; exact HL9.out.symm) HC1.out ?_; rw [← HW6.out]) | (refine wpList_load_row rfl 57 _ rfl wr.heap.size rfl _ _ (0, 0) _ HT6.out Tryz.underlying57 rfl (by rw [List.size_toArray, HL9.out]; exact nre_size) ?_) | fail)
   refine (HCX.out _ HB6.out).mono ?_
   rintro r W7 ⟨rfl, hb7⟩
   have HB7 : Hid (Below w.heap.size w W7) := Lib.hid (HB6.out.trans (hb7.mono HB6.out.size))
   clear hb7
   go_wp2_with fail
   refine (HPL.out W7).mono ?_
   rintro r W8 ⟨rfl, rfl⟩
   go_wp2
   go_roundg (l.length - (k + 1))
   case measure => have := HGH.out; omega
   case rel => exact ⟨k + 1, rfl, by omega, rfl, by rw [Int.natCast_add]; rfl, HB7.out⟩
  ·have hlti : ¬ (k : Int) < (l.length : Int) := by omega
   obtain rfl : k = l.length := by omega
   generalize hFkk : F l.length = fk at *
   go_wp2
   go_ret
   exact ⟨rfl, HBK.out⟩
set_option maxHeartbeats 16000000 in
theorem weight_row (N : Nat) (ih : WtOk N) (S : Nat → Prop) (kd : Int) (p : Nat → Bool) (mn mx gp : Int) (l : List Nd) (ka : Option Addr) (km kc : Nat) (w : World) (hk : ¬ (kd = 1 ∨ kd = 2 ∨ kd = 3 ∨ kd = 5 ∨ kd = 6)) (hN : (fo l).nn ≤ N) (hn : (fo l).nn ≤ 1100) (hok : (fo l).Ok) (hin : Nd.In w S ⟨kd, p, mn, mx, gp, fo l⟩ (.slice ka km kc)) :
  Calls Tryz.prog 37 #[Nd.v ⟨kd, p, mn, mx, gp, fo l⟩ (.slice ka km kc)] w (WtQ ((fo l).W + 0) w) := by
 obtain ⟨hkm, kvs, hks, hki, hkc⟩ := kids_vs (n := ⟨kd, p, mn, mx, gp, fo l⟩) (l := l) rfl hin
 subst hkm
 have n1 : ¬ kd = 1 := by omega
 have n2 : ¬ kd = 2 := by omega
 have n3 : ¬ kd = 3 := by omega
 have n5 : ¬ kd = 5 := by omega
 have n6 : ¬ kd = 6 := by omega
 have b1 : (kd == 1) = false := beq_eq_false_iff_ne.2 n1
 have b2 : (kd == 2) = false := beq_eq_false_iff_ne.2 n2
 have b3 : (kd == 3) = false := beq_eq_false_iff_ne.2 n3
 have b5 : (kd == 5) = false := beq_eq_false_iff_ne.2 n5
 have b6 : (kd == 6) = false := beq_eq_false_iff_ne.2 n6
 have hll := Fo.len_nn (fo l)
 rw [fo_len] at hll
 have HCALL : Hid (∀ k (h : k < l.length) X, Below w.heap.size w X → Calls Tryz.prog 37 #[(l[k]).v (kvs k)] X (WtQ (l[k]).W X)) := Lib.hid (fun k h X hX => by
  have h1 := nn_at l k h
  have h2 := hki (by omega) k
  rw [kidAt_lt h] at h2
  exact ih S _ _ X (by omega) (by omega) (ok_at l hok k h) (h2.below hX))
 have HKC : Hid (∀ k (h : k < l.length), ∃ b cur, ka = some ⟨b, 0, none⟩ ∧ b < w.heap.size ∧ w.heap[b]? = some (.cells cur 57 (0, 0)) ∧ ∀ i u, ((l[k]).cells (kvs k))[i]? = some u → cur[k * 9 + i]? = some u) := Lib.hid (fun k h => by
  rcases hkc with h0 | ⟨b, cur, h5, h6, h7, h8⟩
  ·omega
  ·refine ⟨b, cur, h5, lt_blkB h7, h7, fun i u hu => h8 k h i u ?_⟩
   rw [kidAt_lt h]
   exact hu)
 have HKS := Lib.hid hks
 obtain ⟨F, hF⟩ : ∃ F, F = wF l (0) := ⟨_, rfl⟩
 have HF0 : Hid (F 0 = 0) := Lib.hid (by rw [hF]; exact wF_zero l (by omega))
 have HFS : Hid (∀ k (h : k < l.length), min (F k + min (l[k]).W 4001) 4001 = F (k + 1)) := Lib.hid (fun k h => by rw [hF]; exact wF_succ l _ k h)
 have HFA : Hid (min ((fo l).W + 0) 4001 = F l.length) := Lib.hid (by rw [hF]; exact (wF_all l _).symm)
 have hFL : ∀ k, F k ≤ 4001 := fun k => by rw [hF]; exact wF_le l _ k
 have hDL : 0 ≤ 1100 := by omega
 clear hF hkc hks hki hin hok ih
 obtain ⟨W, hW⟩ : ∃ W, W = w.alloc (.cells #[.int .i64 kd, .int .u64 (sw p 0 : Nat), .int .u64 (sw p 1 : Nat), .int .u64 (sw p 2 : Nat), .int .u64 (sw p 3 : Nat), .int .i64 mn, .int .i64 mx, .int .i64 gp, .slice ka l.length kc] 57) := ⟨_, rfl⟩
 have hb : Below w.heap.size w W := by rw [hW]; exact (Below.refl _ _).alloc (Nat.le_refl _) _
 have hr1 : W.heap[w.heap.size]? = some (.cells #[.int .i64 kd, .int .u64 (sw p 0 : Nat), .int .u64 (sw p 1 : Nat), .int .u64 (sw p 2 : Nat), .int .u64 (sw p 3 : Nat), .int .i64 mn, .int .i64 mx, .int .i64 gp, .slice ka l.length kc] 57 (0, 0)) := by rw [hW]; exact alloc_last w _
 have HB := Lib.hid hb
 have HWE := Lib.hid hW
 obtain ⟨r0, r1, r2, r3, r4, r5, r6, r7, r8, rz⟩ := cells9s hr1
 clear hb hr1 hW
 unfold WtQ
 rw [HFA.out]
 unfold Nd.v Nd.cells
 go_enter Tryz.func37, Tryz.ntmps37
 go_upto_region 1 with fail
 rw [← HWE.out]
 clear HWE
 go_upto_region 12 with fail
 clear r0 r1 r2 r3 r4 r5 r6 r7 r8 rz
 go_loopg [3, 25] l.length (fun gh s3 s25 X => ∃ k : Nat, gh = l.length - k ∧ k ≤ l.length ∧ s3 = .int .i64 (F k : Nat) ∧ s25 = .int .i64 (k : Nat) ∧ Aside (Below w.heap.size w X))
 case atStart => exact ⟨0, by omega, Nat.zero_le _, by rw [HF0.out]; rfl, rfl, HB.out⟩
 case round =>
  obtain ⟨k, hgh, hk, rfl, rfl, hal⟩ := hrel
  have HGH := Lib.hid hgh
  have HBK := Lib.hid hal.out
  clear hal hgh
  by_cases hlt : k < l.length
  ·have hlti : (k : Int) < (l.length : Int) := by omega
   have hk0 : (0 : Int) ≤ (k : Int) := by omega
   obtain ⟨kb, cur, rfl, hkb, hcur, hcl⟩ := HKC.out k hlt
   have hX : wr.heap[kb]? = some (.cells cur 57 (0, 0)) := (HBK.out.block kb hkb).trans hcur
   have hgk := lt_blkB hX
   obtain ⟨q, hq⟩ : ∃ q : Nat, q = min (l[k]).W 4001 := ⟨_, rfl⟩
   have hq4 : q ≤ 4001 := by rw [hq]; exact Nat.min_le_right _ _
   have HCX : Hid (∀ X, Below w.heap.size w X → Calls Tryz.prog 37 #[(l[k]).v (kvs k)] X (fun r w' => r = .returned (.int .i64 (q : Nat)) ∧ Below X.heap.size X w')) := Lib.hid (fun X hX => by rw [hq]; exact HCALL.out k hlt X hX)
   have HFQ : Hid (min (F k + q) 4001 = F (k + 1)) := Lib.hid (by rw [hq]; exact HFS.out k hlt)
   obtain ⟨cs, hcs⟩ : ∃ cs, cs = (l[k]).cells (kvs k) := ⟨_, rfl⟩
   have HC1 : Hid (cs.toArray.all (·.oneCell') = true) := Lib.hid (by rw [hcs]; have := nd_one9 l[k] (kvs k) (HKS.out k); simpa using this)
   have HL9 : Hid (cs.length = 9) := Lib.hid (by rw [hcs]; exact Nd.cells_len _ _)
   have HCL : Hid (∀ i u, cs[i]? = some u → cur[k * 9 + i]? = some u) := Lib.hid (by rw [hcs]; exact hcl)
   unfold Nd.v at HCX
   rw [← hcs] at HCX
   have HX := Lib.hid hX
   obtain ⟨W5, hW5⟩ : ∃ W5, W5 = wr.alloc (.cells zero9 57) := ⟨_, rfl⟩
   have HT5 : Hid (W5.heap[wr.heap.size]? = some (.cells zero9 57 (0, 0))) := Lib.hid (by rw [hW5]; exact alloc_last _ _)
   obtain ⟨W6, hW6⟩ : ∃ W6, W6 = W5.setRow wr.heap.size cs.toArray := ⟨_, rfl⟩
   have hb6 : Below wr.heap.size wr W6 := by rw [hW6, hW5]; exact below_setRow ((Below.refl _ _).alloc (Nat.le_refl _) _) (Nat.le_refl _) _
   have HT6 : Hid (W6.heap[wr.heap.size]? = some (.cells cs.toArray 57 (0, 0))) := Lib.hid (by rw [hW6]; exact setRow_selfR HT5.out _)
   have HB6 : Hid (Below w.heap.size w W6) := Lib.hid (HBK.out.trans (hb6.mono HBK.out.size))
   have hz6 : wr.heap.size < W6.heap.size := lt_blkB HT6.out
   have HW5 := Lib.hid hW5
   have HW6 := Lib.hid hW6
   have hFk := hFL k
   have HPL := Lib.hid (plus_any (F k) q (by omega))
   rw [HFQ.out] at HPL
   clear hcs hcl hcur hX hq hW5 hW6 hb6
   unfold zero9 at HW5 HT5
   generalize hFkk : F k = fk at *
   go_wp2_with (first | (refine wpList_load_part rfl 57 _ rfl kb (k * 9) rfl _ cur cs (0, 0) _ HX.out HCL.out Tryz.underlying57 rfl (by rw [HL9.out]; exact nre_size) ?_) | (rw [← HW5.out]; refine wpList_store_rowTo rfl 57 _ _ rfl rfl wr.heap.size cs.toArray rfl rfl _ _ HT5.out (by rw [List.size_toArray, HL9.out]; exact nre_size) (by show 9 = cs.length; exact HL9.out.symm) HC1.out ?_; rw [← HW6.out]) | (refine wpList_load_row rfl 57 _ rfl wr.heap.size rfl _ _ (0, 0) _ HT6.out Tryz.underlying57 rfl (by rw [List.size_toArray, HL9.out]; exact nre_size) ?_) | fail)
   refine (HCX.out _ HB6.out).mono ?_
   rintro r W7 ⟨rfl, hb7⟩
   have HB7 : Hid (Below w.heap.size w W7) := Lib.hid (HB6.out.trans (hb7.mono HB6.out.size))
   clear hb7
   go_wp2_with fail
   refine (HPL.out W7).mono ?_
   rintro r W8 ⟨rfl, rfl⟩
   go_wp2
   go_roundg (l.length - (k + 1))
   case measure => have := HGH.out; omega
   case rel => exact ⟨k + 1, rfl, by omega, rfl, by rw [Int.natCast_add]; rfl, HB7.out⟩
  ·have hlti : ¬ (k : Int) < (l.length : Int) := by omega
   obtain rfl : k = l.length := by omega
   generalize hFkk : F l.length = fk at *
   go_wp2
   go_ret
   exact ⟨rfl, HBK.out⟩
theorem weight_any : ∀ N, WtOk N
 | 0 => fun S nd kv w h => by unfold Nd.nn at h; omega
 | N + 1 => fun S nd kv w hN hn hok hin => by
  obtain ⟨ka, km, kc, rfl⟩ := hin.shape
  obtain ⟨kd, p, mn, mx, gp, kids⟩ := nd
  obtain ⟨l, rfl⟩ : ∃ l, kids = fo l := ⟨kids.toL, (fo_toL _).symm⟩
  have ih := weight_any N
  have hNl : (fo l).nn ≤ N := by unfold Nd.nn at hN; simp only at hN; omega
  have hnl : (fo l).nn ≤ 1100 := by unfold Nd.nn at hn; simp only at hn; omega
  obtain ⟨⟨h5, h6⟩, hkok⟩ := hok
  by_cases h1 : kd = 1 ∨ kd = 2 ∨ kd = 3
  ·have e : Nd.W ⟨kd, p, mn, mx, gp, fo l⟩ = 1 := by unfold Nd.W ndW; simp only [if_pos h1]
   rw [e]
   exact weight_leaf kd p mn mx gp (fo l) _ w h1 ⟨_, _, _, rfl⟩
  by_cases h66 : kd = 6
  ·subst h66
   obtain ⟨a1, a2, a3, a4, a5⟩ := h6 rfl
   have e : Nd.W ⟨6, p, mn, mx, gp, fo l⟩ = (if mx < 0 then (mn.toNat + 1) * (fo l).W + 1 else mx.toNat * (fo l).W + (mx.toNat - mn.toNat)) := by unfold Nd.W ndW; simp only [if_neg h1]; rfl
   rw [fo_len] at a5
   obtain ⟨x, rfl⟩ : ∃ x, l = [x] := by
    match l, a5 with
    | [x], _ => exact ⟨x, rfl⟩
   have ew : (fo [x]).W = x.W := Nat.add_zero _
   rw [e, ew]
   have enn : (fo [x]).nn = x.nn := by show 1 + x.kids.nn + 0 = 1 + x.kids.nn; omega
   exact weight_rep p mn mx gp _ _ w _ ⟨_, _, _, rfl⟩ (fun X hX => weightRep_any N ih S 6 p mn mx gp x ka km kc X a1 a2 a3 a4 (by omega) (by omega) (ok_at _ hkok 0 (by simp)) (hin.below hX))
  by_cases h55 : kd = 5
  ·subst h55
   have e : Nd.W ⟨5, p, mn, mx, gp, fo l⟩ = (fo l).W + (l.length - 1) := by unfold Nd.W ndW; simp only [if_neg h1, fo_len]; rfl
   rw [e]
   have hl0 := h5 rfl
   rw [fo_len] at hl0
   exact weight_alt N ih S p mn mx gp l ka km kc w hNl hnl hkok hin hl0
  ·have e : Nd.W ⟨kd, p, mn, mx, gp, fo l⟩ = (fo l).W + 0 := by unfold Nd.W ndW; simp only [if_neg h1, if_neg h55, if_neg h66]; rfl
   rw [e]
   exact weight_row N ih S kd p mn mx gp l ka km kc w (by omega) hNl hnl hkok hin
end Go.Proofs.YtnpkcllbpnmabaaGreatDoor
