import Derived.Test.YtnpkcllbpnmabaaGreatDoorKNw
import Derived.Test.YtnpkcllbpnmabaaGreatDoorLiIn
import Derived.Test.YtnpkcllbpnmabaaGreatDoorKRs
import Derived.Deep.LoopGhost
namespace Go.Proofs.YtnpkcllbpnmabaaGreatDoor
set_option maxHeartbeats 8000000
set_option maxRecDepth 100000
open Go.RowKit Go.Shelf
attribute [local go_sem] Oper.semAt_some
structure EiA (B gb st x0 x1 : Nat) (w W : World) (kb : Nat) (cur : Array Value) (g g1 : List St) (nx s1 : Nat) (d6 d7 d8 : Bool) (u7 : Value) (X : World) : Prop where
 ch : ChG B w X
 size : W.heap.size ≤ X.heap.size
 gr : GrAt B gb (if d6 = true then g1 else g) st X
 b0 : X.heap[x0]? = some (.cells #[.pointer (some ⟨gb, 0, none⟩)] 71 (0, 0))
 b1 : X.heap[x1]? = some (.cells #[.int .i64 (nx : Nat)] 3 (0, 0))
 row : X.heap[kb]? = some (.cells cur 57 (0, 0))
 new : d7 = true → d8 = false → ∃ b, u7 = .pointer (some ⟨b, 0, none⟩) ∧ W.heap.size ≤ b ∧ X.heap[b]? = some (.cells #[.int .i64 0] 3 (0, 0))
 out : d8 = true → ∃ b, u7 = .pointer (some ⟨b, 0, none⟩) ∧ W.heap.size ≤ b ∧ X.heap[b]? = some (.cells #[.int .i64 (s1 : Nat)] 3 (0, 0))
structure EiB (B gb st x0 x1 x8 Bx : Nat) (w W : World) (cs : Array Value) (g g1 : List St) (nx s s1 : Nat) (f : St) (d4 d7 d8 : Bool) (X : World) : Prop where
 ch : ChG B w X
 kp : KeepsOthers W X
 ct : ChT W X
 gr : GrAt B gb (if d7 = true then g1 ++ [f] else if d4 = true then g1 else g) st X
 b0 : X.heap[x0]? = some (.cells #[.pointer (some ⟨gb, 0, none⟩)] 71 (0, 0))
 b1 : X.heap[x1]? = some (.cells #[.int .i64 (nx : Nat)] 3 (0, 0))
 b8 : X.heap[x8]? = some (.cells #[.int .i64 (if d8 = true then (g1.length : Int) else (s : Nat))] 3 (0, 0))
 kid : X.heap[Bx]? = some (.cells cs 57 (0, 0))
theorem kids_cap {S : Nat → Prop} {w : World} {n : Nd} {ka : Option Addr} {km kc : Nat} (hin : n.In w S (.slice ka km kc)) : n.kids.len ≤ kc := by
 obtain ⟨ks, ⟨hown, _⟩, _⟩ := hin
 obtain ⟨_, ⟨_, hz⟩ | ⟨g, cap, cur, hv, _, _, hnc, _⟩⟩ := hown
 ·omega
 ·simp only [Value.slice.injEq] at hv
  obtain ⟨_, _, rfl⟩ := hv
  exact hnc
theorem fork_cells (y z : Nat) : (St.fork y z).cells.toArray = #[.int .i64 4, .int .u64 0, .int .u64 0, .int .u64 0, .int .u64 0, .int .i64 (y : Nat), .int .i64 (z : Nat)] := stC_no 4 y z
set_option maxHeartbeats 16000000 in
theorem either_any (N : Nat) (ih : PtOk N) (B gb st : Nat) (n : Nd) (l : List Nd) (m : Nat) (hm : l.length = m + 1) (ka : Option Addr) (km kc : Nat) (g : List St) (nx : Nat) (w : World) (h : GrAt B gb g st w) (hB : B ≤ w.heap.size) (hnk : n.kids = fo l)
  (hN : (fo l).nn ≤ N) (hok : (fo l).Ok) (hlt : (fo l).Lt) (hW : (fo l).W ≤ 4000) (hll : l.length ≤ 1100) (hlen : g.length + ((fo l).nn + 1) * 8000000 ≤ 1099511627776) (hnx : nx < g.length) (hin : n.In w (fun b => b < B) (.slice ka km kc)) :
  Calls Tryz.prog 64 #[.pointer (some ⟨gb, 0, none⟩), .slice ka km kc, .int .i64 (nx : Nat)] w (PtQ B gb st ((fo l).B false g nx) w) := by
 have hcap := kids_cap hin
 rw [hnk, fo_len, hm] at hcap
 obtain ⟨hkm, kvs, hks, hki, hkc⟩ := kids_vs hnk hin
 subst hkm
 obtain ⟨R, hR⟩ : ∃ R, R = (fo l).B false g nx := ⟨_, rfl⟩
 rw [← hR]
 have HRES : Hid (R = altB l nx (downL m m) ((kidAt l m).B g nx)) := Lib.hid (by rw [altB_all l g nx m hm, hR])
 have hl0 : 0 < l.length := by omega
 obtain ⟨kb, cur, hka, hkb, hcur, hcl⟩ : ∃ b cur, ka = some ⟨b, 0, none⟩ ∧ b < B ∧ w.heap[b]? = some (.cells cur 57 (0, 0)) ∧ ∀ k, k < l.length → ∀ i u, ((kidAt l k).cells (kvs k))[i]? = some u → cur[k * 9 + i]? = some u := by
  rcases hkc with h0 | h0
  ·omega
  ·exact h0
 subst hka
 have HG := Lib.hid h
 have HKI := Lib.hid hki
 have HKS := Lib.hid hks
 have HOK := Lib.hid hok
 have HLT := Lib.hid hlt
 have HIH := Lib.hid ih
 have HCL := Lib.hid hcl
 have hnn := Fo.len_nn (fo l)
 rw [fo_len] at hnn
 have HM := Lib.hid hm
 rw [hm]
 obtain ⟨W1, hW1⟩ : ∃ W1, W1 = (w.alloc (.cells #[.pointer (some ⟨gb, 0, none⟩)] 71)).alloc (.cells #[.int .i64 (nx : Nat)] 3) := ⟨_, rfl⟩
 have hb : Below w.heap.size w W1 := by rw [hW1]; exact ((Below.refl _ _).alloc (Nat.le_refl _) _).alloc (by simp) _
 have hz1 : W1.heap.size = w.heap.size + 2 := by rw [hW1]; simp
 have HB0 : Hid (W1.heap[w.heap.size]? = some (.cells #[.pointer (some ⟨gb, 0, none⟩)] 71 (0, 0))) := Lib.hid (by rw [hW1]; exact blk_alloc (alloc_last w _) _)
 have HB1 : Hid (W1.heap[w.heap.size + 1]? = some (.cells #[.int .i64 (nx : Nat)] 3 (0, 0))) := Lib.hid (by rw [hW1]; have := alloc_last (w.alloc (.cells #[.pointer (some ⟨gb, 0, none⟩)] 71)) (.cells #[.int .i64 (nx : Nat)] 3); simpa using this)
 have HBW := Lib.hid hb
 have HC1 : Hid (ChG B w W1) := Lib.hid (ChG.below hb hB)
 have HG1 : Hid (GrAt B gb g st W1) := Lib.hid (h.below hb)
 have HRW : Hid (W1.heap[kb]? = some (.cells cur 57 (0, 0))) := Lib.hid (blk_below hcur hb)
 have hkm : (kidAt l m).nn ≤ (fo l).nn := by
  unfold kidAt
  rw [List.getElem?_eq_getElem (by omega)]
  exact nn_at l _ _
 have hlm : (kidAt l m).Lt := by
  unfold kidAt
  rw [List.getElem?_eq_getElem (by omega)]
  exact lt_at l hlt _ _
 have hmul : (kidAt l m).nn * 8000000 ≤ (fo l).nn * 8000000 := Nat.mul_le_mul_right _ hkm
 have hmb : g.length + (kidAt l m).nn * 8000000 ≤ 1099511627776 := Nat.le_trans (Nat.add_le_add_left (Nat.le_trans hmul (Nat.mul_le_mul_right _ (Nat.le_succ _))) _) hlen
 have hm11 : m ≤ 1100 := by omega
 have hmN : (kidAt l m).nn ≤ N := by omega
 have HPM : Hid (∀ X, ChG B w X → GrAt B gb g st X → Calls Tryz.prog 39 #[.pointer (some ⟨gb, 0, none⟩), (kidAt l m).v (kvs m), .int .i64 (nx : Nat)] X (PtQ B gb st ((kidAt l m).B g nx) X)) := Lib.hid (fun X hX hg => ih B gb st (kidAt l m) (kvs m) g nx X hmN (kidAt_ok hok hl0 m) hlm hmb hnx hg (Nat.le_trans hB hX.bel.size) ((hki hl0 m).kept fun k hk _ _ => hX.bel.block k hk))
 have HL9 : Hid (((kidAt l m).cells (kvs m)).length = 9) := Lib.hid (Nd.cells_len _ _)
 have HCM : Hid (∀ i u, ((kidAt l m).cells (kvs m))[i]? = some u → cur[m * 9 + i]? = some u) := Lib.hid (hcl m (by omega))
 have hl1 := (Nd.lenB _ (kidAt_ok hok hl0 m)) g nx
 have hw1 := kidAt_w hl0 m (l := l)
 have hgd := Nd.good [] (fun _ => True) _ (kidAt_ok hok hl0 m) g nx hnx
 have hgl : nx < ((kidAt l m).B g nx).1.length := Nat.lt_of_lt_of_le hnx (pre_len hgd.pre)
 have hmi : (m : Int) < (m : Int) + 1 := by omega
 have hm0 : (0 : Int) ≤ (m : Int) := by omega
 have hms : ((m + 1 : Nat) : Int) - 1 = (m : Int) := by omega
 have HWE := Lib.hid hW1
 have HHW := Lib.hid hW
 clear h hin hki hkc hks hok hlt ih hnk hR hcur hcl hb hW1 hm hgd hlm hmul hkm hmb hmN
 unfold Nd.v at HPM
 generalize hcs : (kidAt l m).cells (kvs m) = csm at HPM HL9 HCM
 clear hcs
 obtain ⟨g1, hg1⟩ : ∃ g1, g1 = ((kidAt l m).B g nx).1 := ⟨_, rfl⟩
 obtain ⟨s1, hs1⟩ : ∃ s1, s1 = ((kidAt l m).B g nx).2 := ⟨_, rfl⟩
 have HGS : Hid ((kidAt l m).B g nx = (g1, s1)) := Lib.hid (by rw [hg1, hs1])
 rw [HGS.out] at HPM
 rw [← hg1] at hl1 hgl
 clear hg1 hs1
 refine (callsIn_wide (n := 3)).1 ?_
 refine callsIn_of_wp_marks Tryz.func64 rfl trivial ?_ rfl
 refine wpIn_wide.2 ?_
 simp only [Tryz.ntmps64, List.size_toArray, List.length_cons, List.length_nil, Nat.reduceAdd, Nat.reduceSub, Array.replicate_succ, Array.replicate_zero, List.push_toArray, List.append_toArray, List.nil_append, List.cons_append]
 go_upto_region 1 with fail
 rw [← HWE.out]
 go_upto_region 2 with fail
 have hC0 : ChG B w W1.drew := HC1.out.trans (ChG.below (Below.refl _ _).drew (Nat.le_trans hB HC1.out.bel.size))
 have hG0 : GrAt B gb g st W1.drew := HG1.out.below (Below.refl _ _).drew
 refine Reg.wp_region_sto (fun L u X => EiA B gb st w.heap.size (w.heap.size + 1) w W1 kb cur g g1 nx s1 (L 6) (L 7) (L 8) (u 7) X) (fun j => ([some (.pointer (some ⟨gb, 0, none⟩)), some (.slice (some ⟨kb, 0, none⟩) (m + 1) kc), some (.int .i64 (m : Nat)), some (.pointer (some ⟨kb, m * 9, none⟩)), some (.agg csm.toArray), some (.int .i64 (nx : Nat)), some (.int .i64 (s1 : Nat)), none, none] : List (Option Value)).getD j none) (by kernel_rfl) (by kernel_rfl) (by kernel_rfl) (by kernel_rfl) ?rs0 ?rsE ?rsZ
 case rs0 => exact ⟨hC0, Nat.le_refl _, hG0, HB0.out, HB1.out, HRW.out, fun h => (by cases h), fun h => (by cases h)⟩
 case rsE =>
  refine Reg.EachG.plain rfl (fun L u T X hL hz hS hk K hK => ?_) ?_
  ·skip
   have g3 := hk.old 3 (by kernel_rfl) rfl
   have c0 := (Lib.cell_of_heap hS.b0 0).trans rfl
   have hK := hK _ X ⟨hS.ch, hS.size, hS.gr, hS.b0, hS.b1, hS.row, hS.new, hS.out⟩ (fun _ hx => Option.some.inj hx)
   clear hk hz hL
   go_simp
   exact hK
  refine Reg.EachG.plain rfl (fun L u T X hL hz hS hk K hK => ?_) ?_
  ·skip
   have g1 := hk.old 1 (by kernel_rfl) rfl
   have hK := hK _ X ⟨hS.ch, hS.size, hS.gr, hS.b0, hS.b1, hS.row, hS.new, hS.out⟩ (fun _ hx => Option.some.inj hx)
   clear hk hz hL
   go_simp
   exact hK
  refine Reg.EachG.plain rfl (fun L u T X hL hz hS hk K hK => ?_) ?_
  ·skip
   have g7 := hk.old 7 (by kernel_rfl) rfl
   have hK := hK _ X ⟨hS.ch, hS.size, hS.gr, hS.b0, hS.b1, hS.row, hS.new, hS.out⟩ (fun _ hx => Option.some.inj hx)
   clear hk hz hL
   go_simp
   exact hK
  refine Reg.EachG.plain rfl (fun L u T X hL hz hS hk K hK => ?_) ?_
  ·skip
   have g15 := hk.val 1 15 (by kernel_rfl) (by kernel_rfl) rfl
   have g16 := hk.val 2 16 (by kernel_rfl) (by kernel_rfl) rfl
   have hK := hK _ X ⟨hS.ch, hS.size, hS.gr, hS.b0, hS.b1, hS.row, hS.new, hS.out⟩ (fun _ hx => Option.some.inj hx)
   clear hk hz hL
   go_simp
   exact hK
  refine Reg.EachG.plain rfl (fun L u T X hL hz hS hk K hK => ?_) ?_
  ·skip
   have g17 := hk.val 3 17 (by kernel_rfl) (by kernel_rfl) rfl
   refine wp_load_part 57 _ rfl kb (m * 9) (by simp [Act.eval, g17]) _ cur csm (0, 0) _ hS.row HCM.out Tryz.underlying57 rfl (by rw [HL9.out]; exact nre_size) ?_
   exact hK _ X ⟨hS.ch, hS.size, hS.gr, hS.b0, hS.b1, hS.row, hS.new, hS.out⟩ (fun _ hx => Option.some.inj hx)
  refine Reg.EachG.plain rfl (fun L u T X hL hz hS hk K hK => ?_) ?_
  ·skip
   have g5 := hk.old 5 (by kernel_rfl) rfl
   have c1 := (Lib.cell_of_heap hS.b1 0).trans rfl
   have hK := hK _ X ⟨hS.ch, hS.size, hS.gr, hS.b0, hS.b1, hS.row, hS.new, hS.out⟩ (fun _ hx => Option.some.inj hx)
   clear hk hz hL
   go_simp
   exact hK
  refine Reg.EachG.plain rfl (fun L u T X hL hz hS hk K hK => ?_) ?_
  ·skip
   have g14 := hk.val 0 14 (by kernel_rfl) (by kernel_rfl) rfl
   have g18 := hk.val 4 18 (by kernel_rfl) (by kernel_rfl) rfl
   have g19 := hk.val 5 19 (by kernel_rfl) (by kernel_rfl) rfl
   have d8 : L 8 = false := hz 8 (by kernel_rfl)
   have hg := hS.gr
   rw [hL, if_neg (by decide)] at hg
   have hC := HPM.out X hS.ch hg
   clear hk hz
   unfold PtQ at hC
   go_simp
   refine hC.mono ?_
   rintro x w' ⟨rfl, hg', hc'⟩
   refine hK _ w' ⟨hS.ch.trans hc', Nat.le_trans hS.size hc'.bel.size, (by rw [Reg.upd_same]; exact hg'), hc'.blk hS.b0 (by decide) (by decide), hc'.blk hS.b1 (by decide) (by decide), hc'.blk hS.row (by decide) (by decide), fun h7 h8 => ?_, fun h => (by rw [Reg.upd_ne _ _ (by decide), d8] at h; cases h)⟩ (fun _ hx => Option.some.inj hx)
   rw [Reg.upd_ne _ _ (by decide)] at h7 h8
   obtain ⟨b, e7, hb1, hb2⟩ := hS.new h7 h8
   exact ⟨b, by rw [Reg.upd_ne _ _ (by decide)]; exact e7, hb1, hc'.blk hb2 (by decide) (by decide)⟩
  refine Reg.EachG.plain rfl (fun L u T X hL hz hS hk K hK => ?_) ?_
  ·skip
   have d8 : L 8 = false := hz 8 (by kernel_rfl)
   have hal : Below X.heap.size X (X.alloc (.cells #[.int .i64 0] 3)) := (Below.refl _ _).alloc (Nat.le_refl _) _
   have hK := hK (.pointer (some ⟨X.heap.size, 0, none⟩)) (X.alloc (.cells #[.int .i64 0] 3)) ⟨hS.ch.alloc hB _, by have := hS.size; simp; omega, by rw [Reg.upd_ne _ _ (by decide)]; exact hS.gr.below hal, blk_alloc hS.b0 _, blk_alloc hS.b1 _, blk_alloc hS.row _, fun _ _ => ⟨X.heap.size, by rw [Reg.upd_same], hS.size, alloc_last X _⟩, fun h => (by rw [Reg.upd_ne _ _ (by decide), d8] at h; cases h)⟩ (fun _ hx => by cases hx)
   clear hk hz hL d8 hS hal
   go_simp
   exact hK
  refine Reg.EachG.plain rfl (fun L u T X hL hz hS hk K hK => ?_) ?_
  ·skip
   obtain ⟨g8, l8⟩ := hk.any 7 8 (by kernel_rfl) (by kernel_rfl)
   have g20 := hk.val 6 20 (by kernel_rfl) (by kernel_rfl) rfl
   obtain ⟨b, e7, hb1, hb2⟩ := hS.new l8 hL
   have hbl := lt_blkB hb2
   have f0 : X.frozen? ⟨b, 0, none⟩ = false := row_freeN hb2 0
   have c8 := (Lib.cell_of_heap hb2 0).trans rfl
   rw [e7] at g8
   have hn0 : w.heap.size ≠ b := by omega
   have hn1 : w.heap.size + 1 ≠ b := by omega
   have hnk : kb ≠ b := by omega
   have hK := hK undef (X.setCell ⟨b, 0, none⟩ (.int .i64 (s1 : Nat))) ⟨hS.ch.setNew hB (by omega) _ _, by have := hS.size; simpa using this, by rw [Reg.upd_ne _ _ (by decide)]; exact hS.gr.setInt hb2 _ _, (Below.heap_setCell _ _ _ _ hn0).trans hS.b0, (Below.heap_setCell _ _ _ _ hn1).trans hS.b1, (Below.heap_setCell _ _ _ _ hnk).trans hS.row, fun _ h => (by rw [Reg.upd_same] at h; cases h), fun _ => ⟨b, by rw [Reg.upd_ne _ _ (by decide)]; exact e7, hb1, blk_set1i hb2⟩⟩ (fun _ hx => by cases hx)
   clear hk hz hL hS hb2
   go_simp
   exact hK
  exact Reg.EachG.nil
 case rsZ =>
  intro L u w1 hL hS hI
  have e0 := hI 0 (by decide) _ rfl
  have e1 := hI 1 (by decide) _ rfl
  have e2 := hI 2 (by decide) _ rfl
  have e3 := hI 3 (by decide) _ rfl
  have e4 := hI 4 (by decide) _ rfl
  have e5 := hI 5 (by decide) _ rfl
  have e6 := hI 6 (by decide) _ rfl
  clear hI
  simp only [Reg.putAll, Act.put, List.setIfInBounds_toArray, List.set_cons_succ, List.set_cons_zero, Nat.zero_add, Nat.reduceAdd, e0, e1, e2, e3, e4, e5, e6]
  clear e0 e1 e2 e3 e4 e5 e6
  have d6 := hL 6 (by decide)
  have d8 := hL 8 (by decide)
  obtain ⟨x8, e7, hx8, hb8⟩ := hS.out d8
  have hgr := hS.gr
  rw [d6, if_pos rfl] at hgr
  rw [e7]
  have HG2 := Lib.hid hgr
  have HC2 := Lib.hid hS.ch
  have HX0 := Lib.hid hS.b0
  have HX1 := Lib.hid hS.b1
  have HX8 := Lib.hid hb8
  have HR2 := Lib.hid hS.row
  have hsz2 := hS.size
  generalize u 8 = y8 at *
  clear hS hgr hb8 d6 d8 hL e7 u L
  have hml : (m : Int) ≤ (m : Int) + 1 := by omega
  have hmk : (m : Int) ≤ (kc : Int) := by omega
  go_wp2_with fail
  refine (bw_any _ _ _ _).mono ?_
  rintro e w2 ⟨rfl, rfl⟩
  go_wp2_with fail
  obtain ⟨W0, hW0⟩ : ∃ W0, W0 = w1.alloc (.cells #[.slice (some ⟨kb, 0, none⟩) m kc] 55) := ⟨_, rfl⟩
  rw [← hW0]
  have hb : Below w1.heap.size w1 W0 := by rw [hW0]; exact (Below.refl _ _).alloc (Nat.le_refl _) _
  have hz0 : W0.heap.size = w1.heap.size + 1 := by rw [hW0]; simp
  have hb3 : W0.heap[w1.heap.size]? = some (.cells #[.slice (some ⟨kb, 0, none⟩) m kc] 55 (0, 0)) := by rw [hW0]; exact alloc_last w1 _
  have HBZ := Lib.hid hb
  have HCZ : Hid (ChG B w W0) := Lib.hid (HC2.out.trans (ChG.below hb (Nat.le_trans hB HC2.out.bel.size)))
  have hwz1 : w.heap.size + 2 ≤ w1.heap.size := by omega
  clear hW0 hb
  refine (wpIn_wide (n := 3)).1 ?_
  refine wpIn_rangeFunc_ownH rfl (by decide) (gf := 83) (lb := #[.pointer (some ⟨w1.heap.size, 0, none⟩)]) rfl trivial (enters_of Tryz.func83 (by kernel_rfl) rfl)
   (bw_stops Fence.wide 2 trivial rfl (by decide) w1.heap.size m kc (some ⟨kb, 0, none⟩) (fun x => (kidAt l x).cells (kvs x)) (by omega) W0 hb3 (fun k => Nd.cells_len _ _) (Or.inr ⟨kb, cur, rfl, blk_below HR2.out HBZ.out, fun k hk => HCL.out k (by have := HM.out; omega)⟩)) ChT.trans (fun W l o o' _ h ho _ => ChT.put W l o o' h ho) (Below.refl _ _) (fun _ => rfl)
   (fun pre W => ((GrAt B gb (altB l nx pre (g1, s1)).1 st W ∧ W.heap[w.heap.size]? = some (.cells #[.pointer (some ⟨gb, 0, none⟩)] 71 (0, 0)) ∧ W.heap[w.heap.size + 1]? = some (.cells #[.int .i64 (nx : Nat)] 3 (0, 0)) ∧ W.heap[x8]? = some (.cells #[.int .i64 ((altB l nx pre (g1, s1)).2 : Nat)] 3 (0, 0))) ∧ ChG B w W) ∧ w1.heap.size < W.heap.size)
   (fun _ _ _ => False) ?own (fun _ _ _ _ _ hs _ _ => hs) ⟨⟨⟨HG2.out.below HBZ.out, blk_below HX0.out HBZ.out, blk_below HX1.out HBZ.out, blk_below HX8.out HBZ.out⟩, HCZ.out⟩, by omega⟩
   (fun x a' W => ∃ Bx, W.heap[Bx]? = some (.cells ((kidAt l x).cells (kvs x)).toArray 57 (0, 0)) ∧ w1.heap.size < Bx ∧ a' = { tmps := #[.pointer (some ⟨gb, 0, none⟩), .slice (some ⟨kb, 0, none⟩) (m + 1) kc, .int .i64 (nx : Nat), .pointer (some ⟨w.heap.size, 0, none⟩), undef, .pointer (some ⟨w.heap.size + 1, 0, none⟩), .int .i64 0, .int .i64 (m : Nat), .pointer (some ⟨x8, 0, none⟩), undef, .pointer (some ⟨Bx, 0, none⟩), .slice (some ⟨kb, 0, none⟩) (m + 1) kc, .int .i64 ((m : Int) + 1), .int .i64 (m : Nat), .pointer (some ⟨gb, 0, none⟩), .slice (some ⟨kb, 0, none⟩) (m + 1) kc, .int .i64 (m : Nat), .pointer (some ⟨kb, m * 9, none⟩), .agg csm.toArray, .int .i64 (nx : Nat), .int .i64 (s1 : Nat), .slice (some ⟨kb, 0, none⟩) (m + 1) kc, .int .i64 (m : Nat), .slice (some ⟨kb, 0, none⟩) m kc, .func (.func 83) #[] #[.pointer (some ⟨w1.heap.size, 0, none⟩)], .int .i64 (x : Nat), .agg ((kidAt l x).cells (kvs x)).toArray, undef, undef, undef, undef, undef, undef, undef, undef, undef], defers := [] })
   (fun x a' s A A' row hs hg hr => by obtain ⟨Bx, h1, h2, h3⟩ := hs; exact ⟨Bx, turn_blk h1 hg hr, h2, h3⟩) ?assign ?body ?done ?stop
  case own =>
   intro s A A' row hs hg hr
   exact ⟨⟨⟨hs.1.1.1.turn hg hr, turn_blk hs.1.1.2.1 hg hr, turn_blk hs.1.1.2.2.1 hg hr, turn_blk hs.1.1.2.2.2 hg hr⟩, hs.1.2.turn hB (by omega) hg hr⟩, Nat.lt_of_lt_of_le hs.2 hg.size⟩
  case assign =>
   intro l' pre x W K hi hK
   obtain ⟨hi, hwl⟩ := hi
   obtain ⟨xa, xm, xc, hxv⟩ := HKS.out x
   obtain ⟨Wq, hWq⟩ : ∃ Wq, Wq = W.alloc (.cells zero9 57) := ⟨_, rfl⟩
   have hk1 : Wq.heap[W.heap.size]? = some (.cells zero9 57 (0, 0)) := by rw [hWq]; exact alloc_last W _
   have hlt1 : W.heap.size < Wq.heap.size := lt_blkB hk1
   have hbel : Below W.heap.size W (Wq.setRow W.heap.size ((kidAt l x).cells (kvs x)).toArray) := by rw [hWq]; exact below_setRow ((Below.refl _ _).alloc (Nat.le_refl _) _) (Nat.le_refl _) _
   have HK1 := Lib.hid hk1
   have HK := Lib.hid (hK _ (Wq.setRow W.heap.size ((kidAt l x).cells (kvs x)).toArray) ((keeps_below hbel).from _) (ChG.below hbel (Nat.le_refl _)).t ⟨⟨⟨hi.1.1.below hbel, blk_below hi.1.2.1 hbel, blk_below hi.1.2.2.1 hbel, blk_below hi.1.2.2.2 hbel⟩, hi.2.trans (ChG.below hbel (Nat.le_trans hB hi.2.bel.size))⟩, Nat.lt_of_lt_of_le hwl hbel.size⟩ ⟨W.heap.size, setRow_selfR hk1 _, hwl, rfl⟩)
   have HW1 := Lib.hid hWq
   have HN1 : Hid (((kidAt l x).cells (kvs x)).all (·.oneCell') = true) := Lib.hid (nd_one9 _ _ ⟨_, _, _, hxv⟩)
   have HSP : Hid ((spl zero9.toList 0 ((kidAt l x).cells (kvs x))).toArray = ((kidAt l x).cells (kvs x)).toArray) := Lib.hid (by rw [spl_all _ _ (by rw [Nd.cells_len]; rfl)])
   have HL9' : Hid (((kidAt l x).cells (kvs x)).length = 9) := Lib.hid (Nd.cells_len _ _)
   clear hk1 hbel hK hWq hxv hi hwl
   generalize (kidAt l x).cells (kvs x) = cs at *
   unfold zero9 at HW1
   gi_wp2_with (first | (rw [← HW1.out]; refine wpListIn_store_partC rfl 57 _ _ rfl rfl W.heap.size 0 cs rfl rfl 57 zero9 HK1.out (by rw [HL9'.out]; exact nre_size) (by rw [HL9'.out]; decide) HN1.out cs.toArray HSP.out ?_) | fail)
   exact HK.out
  case body =>
   rintro l' pre x a' W hl' ⟨lr, hlr⟩ ⟨⟨⟨hg, hx0, hx1, hx8'⟩, hc⟩, hws⟩ ⟨Bx, hBx, hBxl, rfl⟩ hplt
   have hl0' : 0 < l.length := by have := HM.out; omega
   have hll' : l.length = m + 1 := HM.out
   have hm1 : pre.length * ((fo l).W + 1) ≤ 1100 * 4001 := Nat.mul_le_mul (by omega) (by omega)
   have hrl := altB_lenA HOK.out hl0' nx (g1, s1) pre
   have hrg := altB_goodA HOK.out hl0' nx (g1, s1) hgl pre
   have hnk : (kidAt l x).nn ≤ (fo l).nn := by
    unfold kidAt
    rw [List.getElem?_eq_getElem (by omega)]
    exact nn_at l _ _
   have hlk : (kidAt l x).Lt := by
    unfold kidAt
    rw [List.getElem?_eq_getElem (by omega)]
    exact lt_at l HLT.out _ _
   have hmul : (kidAt l x).nn * 8000000 ≤ (fo l).nn * 8000000 := Nat.mul_le_mul_right _ hnk
   obtain ⟨ga, hga⟩ : ∃ ga, ga = (altB l nx pre (g1, s1)).1 := ⟨_, rfl⟩
   obtain ⟨sa, hsa⟩ : ∃ sa, sa = (altB l nx pre (g1, s1)).2 := ⟨_, rfl⟩
   have hga2 : ga.length ≤ g.length + 4000 + 1100 * 4001 := by
    rw [hga]
    have h0 : (g1, s1).1.length = g1.length := rfl
    rw [h0] at hrl
    omega
   have hgb : ga.length + (kidAt l x).nn * 8000000 ≤ 1099511627776 := by
    refine Nat.le_trans (Nat.add_le_add hga2 hmul) (Nat.le_trans ?_ hlen)
    rw [Nat.succ_mul]
    omega
   have hnN : (kidAt l x).nn ≤ N := Nat.le_trans hnk hN
   rw [← hga] at hrg hg
   have HC : Hid (∀ X, ChG B w X → GrAt B gb ga st X → Calls Tryz.prog 39 #[.pointer (some ⟨gb, 0, none⟩), (kidAt l x).v (kvs x), .int .i64 (nx : Nat)] X (PtQ B gb st ((kidAt l x).B ga nx) X)) := Lib.hid (fun X hX hg => HIH.out B gb st (kidAt l x) (kvs x) ga nx X hnN (kidAt_ok HOK.out hl0' x) hlk hgb hrg hg (Nat.le_trans hB hX.bel.size) ((HKI.out hl0' x).kept fun k hk _ _ => hX.bel.block k hk))
   have HSN : Hid (altB l nx (pre ++ [x]) (g1, s1) = (((kidAt l x).B ga nx).1 ++ [.fork ((kidAt l x).B ga nx).2 sa], ((kidAt l x).B ga nx).1.length)) := Lib.hid (by rw [altB_snoc, ← hga, ← hsa])
   have hwk := kidAt_w hl0' x (l := l)
   have hqlen := Nd.lenB _ (kidAt_ok HOK.out hl0' x) ga nx
   obtain ⟨gq, hgq⟩ : ∃ gq, gq = ((kidAt l x).B ga nx).1 := ⟨_, rfl⟩
   obtain ⟨sq, hsq⟩ : ∃ sq, sq = ((kidAt l x).B ga nx).2 := ⟨_, rfl⟩
   have hgqs : (kidAt l x).B ga nx = (gq, sq) := by rw [hgq, hsq]
   rw [hgqs] at HC HSN hqlen
   have hqb : gq.length ≤ 1099511627776 := by
    have h0 : (gq, sq).1.length = gq.length := rfl
    rw [h0] at hqlen
    rw [Nat.succ_mul] at hlen
    omega
   have HPU : Hid (∀ X, GrAt B gb gq st X → B ≤ X.heap.size → Calls Tryz.prog 63 #[.pointer (some ⟨gb, 0, none⟩), .agg #[.int .i64 4, .int .u64 0, .int .u64 0, .int .u64 0, .int .u64 0, .int .i64 (sq : Nat), .int .i64 (sa : Nat)]] X fun x w' => x = .returned (.int .i64 (gq.length : Nat)) ∧ GrAt B gb (gq ++ [.fork sq sa]) st w' ∧ ChG B X w') := Lib.hid (fun X h1 h2 => by
    have := put_any B gb gq st (.fork sq sa) X h1 h2 hqb
    rw [fork_cells] at this
    exact this)
   have HL9' : Hid (((kidAt l x).cells (kvs x)).length = 9) := Lib.hid (Nd.cells_len _ _)
   unfold Nd.v at HC
   rw [← hsa] at hx8'
   have HG0 : Hid (GrAt B gb ga st W.drew) := Lib.hid (hg.below (Below.refl _ _).drew)
   have HC0 : Hid (ChG B w W.drew) := Lib.hid (hc.trans (ChG.below (Below.refl _ _).drew (Nat.le_trans hB hc.bel.size)))
   have HX0' := Lib.hid hx0
   have HX1' := Lib.hid hx1
   have HX8' := Lib.hid hx8'
   have HBX := Lib.hid hBx
   have hxb : x8 < w1.heap.size := lt_blkB HX8.out
   clear hg hx0 hx1 hx8' hc hBx hlr hrl hrg hnk hlk hmul hm1 hga2 hgb hnN hgq hsq hgqs hqlen hga hsa hwk hqb
   generalize (kidAt l x).cells (kvs x) = cs at *
   refine wpIn_block ?_
   refine Reg.wpIn_region_sto l' _ (fun L u X => EiB B gb st w.heap.size (w.heap.size + 1) x8 Bx w W cs.toArray ga gq nx sa sq (.fork sq sa) (L 4) (L 7) (L 8) X) (fun j => ([some (.pointer (some ⟨gb, 0, none⟩)), some (.pointer (some ⟨gb, 0, none⟩)), some (.agg cs.toArray), some (.int .i64 (nx : Nat)), some (.int .i64 (sq : Nat)), some (.int .i64 (sa : Nat)), some (.agg #[.int .i64 4, .int .u64 0, .int .u64 0, .int .u64 0, .int .u64 0, .int .i64 (sq : Nat), .int .i64 (sa : Nat)]), some (.int .i64 (gq.length : Nat)), none] : List (Option Value)).getD j none) (by kernel_rfl) (by kernel_rfl) (by kernel_rfl) (by kernel_rfl) (by kernel_rfl) (fun _ _ h => h) ?rs0 ?rsE ?rsZ
   case rs0 => exact ⟨HC0.out, KeepsOthers.drew W, ChT.refl W, HG0.out, HX0'.out, HX1'.out, HX8'.out, HBX.out⟩
   case rsE =>
    refine Reg.EachG.plain rfl (fun L u T X hL hz hS hk K hK => ?_) ?_
    ·skip
     have g3 := hk.old 3 (by kernel_rfl) rfl
     have c0 := (Lib.cell_of_heap hS.b0 0).trans rfl
     have hK := hK _ X ⟨hS.ch, hS.kp, hS.ct, hS.gr, hS.b0, hS.b1, hS.b8, hS.kid⟩ (fun _ hx => Option.some.inj hx)
     clear hk hz hL
     go_simp
     exact hK
    refine Reg.EachG.plain rfl (fun L u T X hL hz hS hk K hK => ?_) ?_
    ·skip
     have g3 := hk.old 3 (by kernel_rfl) rfl
     have c0 := (Lib.cell_of_heap hS.b0 0).trans rfl
     have hK := hK _ X ⟨hS.ch, hS.kp, hS.ct, hS.gr, hS.b0, hS.b1, hS.b8, hS.kid⟩ (fun _ hx => Option.some.inj hx)
     clear hk hz hL
     go_simp
     exact hK
    refine Reg.EachG.plain rfl (fun L u T X hL hz hS hk K hK => ?_) ?_
    ·skip
     have g10 := hk.old 10 (by kernel_rfl) rfl
     refine wp_load_part 57 _ rfl Bx 0 (by simp [Act.eval, g10]) _ cs.toArray cs (0, 0) _ hS.kid (fun j u hu => by rw [Nat.zero_add]; simpa using hu) Tryz.underlying57 rfl (by rw [HL9'.out]; exact nre_size) ?_
     exact hK _ X ⟨hS.ch, hS.kp, hS.ct, hS.gr, hS.b0, hS.b1, hS.b8, hS.kid⟩ (fun _ hx => Option.some.inj hx)
    refine Reg.EachG.plain rfl (fun L u T X hL hz hS hk K hK => ?_) ?_
    ·skip
     have g5 := hk.old 5 (by kernel_rfl) rfl
     have c1 := (Lib.cell_of_heap hS.b1 0).trans rfl
     have hK := hK _ X ⟨hS.ch, hS.kp, hS.ct, hS.gr, hS.b0, hS.b1, hS.b8, hS.kid⟩ (fun _ hx => Option.some.inj hx)
     clear hk hz hL
     go_simp
     exact hK
    refine Reg.EachG.plain rfl (fun L u T X hL hz hS hk K hK => ?_) ?_
    ·skip
     have g28 := hk.val 1 28 (by kernel_rfl) (by kernel_rfl) rfl
     have g29 := hk.val 2 29 (by kernel_rfl) (by kernel_rfl) rfl
     have g30 := hk.val 3 30 (by kernel_rfl) (by kernel_rfl) rfl
     have d7 : L 7 = false := hz 7 (by kernel_rfl)
     have d8 : L 8 = false := hz 8 (by kernel_rfl)
     have hg := hS.gr
     rw [d7, hL, if_neg (by decide), if_neg (by decide)] at hg
     have hC := HC.out X hS.ch hg
     clear hk hz
     unfold PtQ at hC
     go_simp
     refine hC.mono ?_
     rintro x w' ⟨rfl, hg', hc'⟩
     refine hK _ w' ⟨hS.ch.trans hc', hS.kp.trans hc'.kp, hS.ct.trans hc'.t, (by rw [Reg.upd_same, Reg.upd_ne _ _ (by decide), d7, if_neg (by decide), if_pos rfl]; exact hg'), hc'.blk hS.b0 (by decide) (by decide), hc'.blk hS.b1 (by decide) (by decide), (by rw [Reg.upd_ne _ _ (by decide)]; exact hc'.blk hS.b8 (by decide) (by decide)), hc'.blk hS.kid (by decide) (by decide)⟩ (fun _ hx => Option.some.inj hx)
    refine Reg.EachG.plain rfl (fun L u T X hL hz hS hk K hK => ?_) ?_
    ·skip
     have g8 := hk.old 8 (by kernel_rfl) rfl
     have d8 : L 8 = false := hz 8 (by kernel_rfl)
     have hb8 := hS.b8
     rw [d8, if_neg (by decide)] at hb8
     have c8 := (Lib.cell_of_heap hb8 0).trans rfl
     have hK := hK _ X ⟨hS.ch, hS.kp, hS.ct, hS.gr, hS.b0, hS.b1, hS.b8, hS.kid⟩ (fun _ hx => Option.some.inj hx)
     clear hk hz hL d8 hb8
     go_simp
     exact hK
    refine Reg.EachG.plain rfl (fun L u T X hL hz hS hk K hK => ?_) ?_
    ·skip
     have g31 := hk.val 4 31 (by kernel_rfl) (by kernel_rfl) rfl
     have g32 := hk.val 5 32 (by kernel_rfl) (by kernel_rfl) rfl
     have hK := hK _ X ⟨hS.ch, hS.kp, hS.ct, hS.gr, hS.b0, hS.b1, hS.b8, hS.kid⟩ (fun _ hx => Option.some.inj hx)
     clear hk hz hL
     go_simp
     exact hK
    refine Reg.EachG.plain rfl (fun L u T X hL hz hS hk K hK => ?_) ?_
    ·skip
     have g27 := hk.val 0 27 (by kernel_rfl) (by kernel_rfl) rfl
     have g33 := hk.val 6 33 (by kernel_rfl) (by kernel_rfl) rfl
     have d8 : L 8 = false := hz 8 (by kernel_rfl)
     obtain ⟨_, l31⟩ := hk.any 4 31 (by kernel_rfl) (by kernel_rfl)
     have hg := hS.gr
     rw [hL, l31, if_neg (by decide), if_pos rfl] at hg
     have hC := HPU.out X hg (Nat.le_trans hB hS.ch.bel.size)
     clear hk hz
     go_simp
     refine hC.mono ?_
     rintro x w' ⟨rfl, hg', hc'⟩
     refine hK _ w' ⟨hS.ch.trans hc', hS.kp.trans hc'.kp, hS.ct.trans hc'.t, (by rw [Reg.upd_same, if_pos rfl]; exact hg'), hc'.blk hS.b0 (by decide) (by decide), hc'.blk hS.b1 (by decide) (by decide), (by rw [Reg.upd_ne _ _ (by decide)]; exact hc'.blk hS.b8 (by decide) (by decide)), hc'.blk hS.kid (by decide) (by decide)⟩ (fun _ hx => Option.some.inj hx)
    refine Reg.EachG.plain rfl (fun L u T X hL hz hS hk K hK => ?_) ?_
    ·skip
     have g8 := hk.old 8 (by kernel_rfl) rfl
     have g34 := hk.val 7 34 (by kernel_rfl) (by kernel_rfl) rfl
     have hb8 := hS.b8
     rw [hL, if_neg (by decide)] at hb8
     have hbl := lt_blkB hb8
     have f0 : X.frozen? ⟨x8, 0, none⟩ = false := row_freeN hb8 0
     have c8 := (Lib.cell_of_heap hb8 0).trans rfl
     have hn0 : w.heap.size ≠ x8 := by omega
     have hn1 : w.heap.size + 1 ≠ x8 := by omega
     have hnk : Bx ≠ x8 := by omega
     have hK := hK undef (X.setCell ⟨x8, 0, none⟩ (.int .i64 (gq.length : Nat))) ⟨hS.ch.setNew hB (by omega) _ _, hS.kp.trans (KeepsOthers.setCell _ _ _), hS.ct.trans (ChT.setInt hb8 _ _), (by rw [Reg.upd_ne _ _ (by decide), Reg.upd_ne _ _ (by decide)]; exact hS.gr.setInt hb8 _ _), (Below.heap_setCell _ _ _ _ hn0).trans hS.b0, (Below.heap_setCell _ _ _ _ hn1).trans hS.b1, (by rw [Reg.upd_same, if_pos rfl]; exact blk_set1i hb8), (Below.heap_setCell _ _ _ _ hnk).trans hS.kid⟩ (fun _ hx => by cases hx)
     clear hk hz hL hS hb8
     go_simp
     exact hK
    exact Reg.EachG.nil
   case rsZ =>
    intro L u w9 hL hS hI
    have e0 := hI 0 (by decide) _ rfl
    have e1 := hI 1 (by decide) _ rfl
    have e2 := hI 2 (by decide) _ rfl
    have e3 := hI 3 (by decide) _ rfl
    have e4 := hI 4 (by decide) _ rfl
    have e5 := hI 5 (by decide) _ rfl
    have e6 := hI 6 (by decide) _ rfl
    have e7 := hI 7 (by decide) _ rfl
    clear hI
    simp only [Reg.putAll, Act.put, List.setIfInBounds_toArray, List.set_cons_succ, List.set_cons_zero, Nat.zero_add, Nat.reduceAdd, e0, e1, e2, e3, e4, e5, e6, e7]
    clear e0 e1 e2 e3 e4 e5 e6 e7
    have d7 := hL 7 (by decide)
    have d8 := hL 8 (by decide)
    have hgr := hS.gr
    rw [d7, if_pos rfl] at hgr
    have hb8 := hS.b8
    rw [d8, if_pos rfl] at hb8
    show KeepsFrom _ _ _ ∧ ChT _ _ ∧ ((GrAt B gb (altB l nx (pre ++ [x]) (g1, s1)).1 st _ ∧ _ ∧ _ ∧ _ = some (Obj.cells #[.int .i64 ((altB l nx (pre ++ [x]) (g1, s1)).2 : Nat)] 3 (0, 0))) ∧ _) ∧ _
    rw [HSN.out]
    exact ⟨hS.kp.from _, hS.ct, ⟨⟨hgr, hS.b0, hS.b1, hb8⟩, hS.ch⟩, Nat.lt_of_lt_of_le hws hS.kp.size⟩
  case done =>
   rintro D ys W hD rfl ⟨⟨⟨hg, hx0, hx1, hx8'⟩, hc⟩, hws⟩ hK
   have hres := HRES.out
   rw [HGS.out] at hres
   subst hres
   have c8 : W.cell? ⟨x8, 0, none⟩ = some (.int .i64 ((altB l nx (downL m m) (g1, s1)).2 : Nat)) := (Lib.cell_of_heap hx8' 0).trans rfl
   have hxl := lt_blkB hx8'
   have HGX := Lib.hid hg
   have HCX := Lib.hid hc
   have HKK := Lib.hid hK
   clear hg hx0 hx1 hx8' hc hK
   go_wp2
   refine ⟨by simp, .inl ⟨_, _, rfl, run_takeDeferred HKK.out, ?_⟩⟩
   have hgr := grownBy_putObj' W D (.deferred none)
   have hr : ∀ r, some D = some r → W0.heap.size ≤ r ∧ ∃ o : Obj, W.heap[r]? = some o ∧ o.isCells = false := fun r e => by cases e; exact ⟨hD, _, HKK.out, rfl⟩
   exact ⟨_, results_tmp rfl _ _ _, rfl, HGX.out.turn hgr hr, HCX.out.turn hB (by omega) hgr hr⟩
  case stop =>
   rintro D c pre W _ _ h _
   exact h.elim
end Go.Proofs.YtnpkcllbpnmabaaGreatDoor
namespace Go.Proofs.YtnpkcllbpnmabaaGreatDoor
set_option maxHeartbeats 8000000
set_option maxRecDepth 100000
open Go.RowKit
theorem optB_snoc (B : GB) (nx : Nat) : ∀ (k : Nat) (g : List St) (s : Nat), optB B nx (k + 1) g s = ((B (optB B nx k g s).1 (optB B nx k g s).2).1 ++ [.fork (B (optB B nx k g s).1 (optB B nx k g s).2).2 nx], (B (optB B nx k g s).1 (optB B nx k g s).2).1.length)
 | 0, _, _ => rfl
 | k + 1, g, s => by
  show optB B nx (k + 1) _ _ = _
  rw [optB_snoc B nx k]
  rfl
theorem rowS_arrow : ∀ (g : List St) (k y z y' : Nat), g[k]? = some (.fork y z) → rowS (g.set k (.fork y' z)) = (rowS g).set (k * 7 + 5) (.int .i64 (y' : Nat))
 | [], _, _, _, _, h => by simp at h
 | t :: g, 0, y, z, y', h => by
  have e : t = .fork y z := Option.some.inj h
  subst e
  show (St.fork y' z).cells ++ rowS g = ((St.fork y z).cells ++ rowS g).set (0 * 7 + 5) _
  rw [List.set_append_left _ _ (by rw [St.cells_len]; decide)]
  rfl
 | t :: g, k + 1, y, z, y', h => by
  show t.cells ++ rowS (g.set k _) = (t.cells ++ rowS g).set ((k + 1) * 7 + 5) _
  rw [rowS_arrow g k y z y' (by simpa using h), List.set_append_right _ _ (by rw [St.cells_len]; omega), St.cells_len, show (k + 1) * 7 + 5 - 7 = k * 7 + 5 by omega]
theorem GrAt.arrow {B gb st : Nat} {g : List St} {X : World} (h : GrAt B gb g st X) {k y z : Nat} (hk : g[k]? = some (.fork y z)) (y' : Nat) :
  ∃ g0 cap u, X.heap[gb]? = some (.cells #[.slice (some ⟨g0, 0, none⟩) g.length cap, .int .i64 st] 106 (0, 0)) ∧ g.length ≤ cap ∧ X.cell? ⟨g0, k * 7 + 5, none⟩ = some u ∧ X.frozen? ⟨g0, k * 7 + 5, none⟩ = false ∧ g0 < X.heap.size ∧
   GrAt B gb (g.set k (.fork y' z)) st (X.setCell ⟨g0, k * 7 + 5, none⟩ (.int .i64 (y' : Nat))) ∧ ∀ w, B ≤ w.heap.size → ChG B w X → ChG B w (X.setCell ⟨g0, k * 7 + 5, none⟩ (.int .i64 (y' : Nat))) := by
 obtain ⟨h0, v, h1, hl, ⟨rfl, hz⟩ | ⟨g0, cap, cur, rfl, hB, hg, hnc, hcm, hcs, htk⟩⟩ := h
 ·rw [List.length_eq_zero_iff.1 hz] at hk
  simp at hk
 have hkl : k < g.length := (List.getElem?_eq_some_iff.1 hk).1
 have hin : k * 7 + 5 < cur.size := by rw [hcs]; omega
 have hne : gb ≠ g0 := fun e => by subst e; rw [hg] at h1; simp at h1
 refine ⟨g0, cap, cur[k * 7 + 5], h1, hnc, ?_, by simp [World.frozen?, hg], lt_blkB hg, ⟨h0, _, (Below.heap_setCell _ _ _ _ hne).trans h1, ?_⟩, fun w hw hc => ?_⟩
 ·simp [World.cell?, hg, hin]
 ·refine ⟨by rw [rowS_len], Or.inr ⟨g0, cap, cur.setIfInBounds (k * 7 + 5) (.int .i64 (y' : Nat)), by rw [List.length_set], hB, ?_, by rw [List.length_set]; exact hnc, hcm, by simpa using hcs, ?_⟩⟩
  ·simp [World.setCell, Array.getElem?_modify, hg]
  ·rw [rowS_arrow g k y z y' hk, ← htk, List.length_set, Array.toList_setIfInBounds, List.take_set]
 ·exact hc.trans ⟨(Below.refl _ _).setCell (p := ⟨g0, k * 7 + 5, none⟩) hB _, fun j cs T z' _ h2 h3 => Below.heap_setCell _ _ _ _ (by simp; intro e; subst e; rw [hg] at h3; simp only [Option.some.injEq, Obj.cells.injEq] at h3; exact h2 h3.2.1.symm), KeepsOthers.setCell _ _ _⟩
structure TiS (B gb st b0 b1 : Nat) (w : World) (rc cs : Array Value) (g : List St) (X : World) : Prop where
 gr : GrAt B gb g st X
 ch : ChG B w X
 re : X.heap[b0]? = some (.cells rc 57 (0, 0))
 kid : X.heap[b1]? = some (.cells cs 57 (0, 0))
theorem TiS.step {B gb st b0 b1 : Nat} {w : World} {rc cs : Array Value} {g g' : List St} {X X' : World} (h : TiS B gb st b0 b1 w rc cs g X) (hg : GrAt B gb g' st X') (hc : ChG B X X') : TiS B gb st b0 b1 w rc cs g' X' :=
 ⟨hg, h.ch.trans hc, hc.blk h.re (by decide) (by decide), hc.blk h.kid (by decide) (by decide)⟩
theorem kid_one {S : Nat → Prop} {w : World} {n x : Nd} (hl : n.kids = fo [x]) {ka : Option Addr} {km kc : Nat} (hin : n.In w S (.slice ka km kc)) :
  km = 1 ∧ ∃ kv kb cur, (∃ a m c, kv = .slice a m c) ∧ x.In w S kv ∧ ka = some ⟨kb, 0, none⟩ ∧ S kb ∧ w.heap[kb]? = some (.cells cur 57 (0, 0)) ∧ ∀ i u, (x.cells kv)[i]? = some u → cur[0 + i]? = some u := by
 obtain ⟨h1, kvs, h2, h3, h4⟩ := kids_vs hl hin
 have e : kidAt [x] 0 = x := rfl
 rcases h4 with h4 | ⟨b, cur, h5, h6, h7, h8⟩
 ·cases h4
 ·refine ⟨h1, kvs 0, b, cur, h2 0, by have := h3 (by simp) 0; rwa [e] at this, h5, h6, h7, fun i u hu => ?_⟩
  have := h8 0 (by simp) i u (by rw [e]; exact hu)
  rwa [Nat.zero_mul] at this
set_option maxHeartbeats 16000000 in
theorem times_any (N : Nat) (ih : PtOk N) (B gb st : Nat) (kd : Int) (p : Nat → Bool) (mn mx gp : Int) (x : Nd) (ka : Option Addr) (km kc : Nat) (g : List St) (nx : Nat) (w : World) (h : GrAt B gb g st w) (hB : B ≤ w.heap.size)
  (h0 : 0 ≤ mn) (hx : mx = -1 ∨ mn ≤ mx) (hmn : mn ≤ 255) (hmx : mx ≤ 255) (hN : x.nn ≤ N) (hok : x.Ok) (hlt : ¬ mx = 0 → x.Lt ∧ x.W ≤ 4000) (hlen : g.length + (x.nn + 1) * 8000000 ≤ 1099511627776) (hnx : nx < g.length) (hin : Nd.In w (fun b => b < B) ⟨kd, p, mn, mx, gp, fo [x]⟩ (.slice ka km kc)) :
  Calls Tryz.prog 65 #[.pointer (some ⟨gb, 0, none⟩), Nd.v ⟨kd, p, mn, mx, gp, fo [x]⟩ (.slice ka km kc), .int .i64 (nx : Nat)] w (PtQ B gb st (timesB x.B mn mx g nx) w) := by
 obtain ⟨rfl, kv, kb, cur, hkv, hxi, rfl, hkb, hcur, hcl⟩ := kid_one rfl hin
 obtain ⟨cs, hcs⟩ : ∃ cs, cs = x.cells kv := ⟨_, rfl⟩
 rw [← hcs] at hcl
 obtain ⟨W1, hW1⟩ : ∃ W1, W1 = w.alloc (.cells #[.int .i64 kd, .int .u64 (sw p 0 : Nat), .int .u64 (sw p 1 : Nat), .int .u64 (sw p 2 : Nat), .int .u64 (sw p 3 : Nat), .int .i64 mn, .int .i64 mx, .int .i64 gp, .slice (some ⟨kb, 0, none⟩) 1 kc] 57) := ⟨_, rfl⟩
 obtain ⟨W2, hW2⟩ : ∃ W2, W2 = W1.alloc (.cells zero9 57) := ⟨_, rfl⟩
 obtain ⟨W3, hW3⟩ : ∃ W3, W3 = W2.setRow (w.heap.size + 1) cs.toArray := ⟨_, rfl⟩
 obtain ⟨rc, hrc⟩ : ∃ rc : Array Value, rc = #[.int .i64 kd, .int .u64 (sw p 0 : Nat), .int .u64 (sw p 1 : Nat), .int .u64 (sw p 2 : Nat), .int .u64 (sw p 3 : Nat), .int .i64 mn, .int .i64 mx, .int .i64 gp, .slice (some ⟨kb, 0, none⟩) 1 kc] := ⟨_, rfl⟩
 have hz1 : W1.heap.size = w.heap.size + 1 := by rw [hW1]; simp
 have hb1 : Below w.heap.size w W1 := by rw [hW1]; exact (Below.refl _ _).alloc (Nat.le_refl _) _
 have hr1 : W1.heap[w.heap.size]? = some (.cells rc 57 (0, 0)) := by rw [hW1, hrc]; exact alloc_last w _
 have hk2 : W2.heap[w.heap.size + 1]? = some (.cells zero9 57 (0, 0)) := by rw [hW2, ← hz1]; exact alloc_last W1 _
 have hb3 : Below W1.heap.size W1 W3 := by rw [hW3, hW2]; exact below_setRow ((Below.refl _ _).alloc (Nat.le_refl _) _) (by omega) _
 have hk3 : W3.heap[w.heap.size + 1]? = some (.cells cs.toArray 57 (0, 0)) := by rw [hW3]; exact setRow_selfR hk2 _
 have hbw : Below w.heap.size w W3 := hb1.trans (hb3.mono (by omega))
 have HT0 : Hid (TiS B gb st w.heap.size (w.heap.size + 1) w rc cs.toArray g W3) := Lib.hid ⟨h.below hbw, ChG.below hbw hB, blk_below hr1 hb3, hk3⟩
 have HR1 := Lib.hid hr1
 have HK2 := Lib.hid hk2
 have HRW : Hid (W1.heap[kb]? = some (.cells cur 57 (0, 0))) := Lib.hid (blk_below hcur hb1)
 have HCL := Lib.hid hcl
 have HL9 : Hid (cs.length = 9) := Lib.hid (by rw [hcs]; exact Nd.cells_len _ _)
 have HN1 : Hid (cs.all (·.oneCell') = true) := Lib.hid (by rw [hcs]; exact nd_one9 _ _ hkv)
 have HSP : Hid ((spl zero9.toList 0 cs).toArray = cs.toArray) := Lib.hid (by rw [spl_all _ _ (by rw [hcs, Nd.cells_len]; rfl)])
 have HRC : ∀ (X : World) (g' : List St), TiS B gb st w.heap.size (w.heap.size + 1) w rc cs.toArray g' X → X.cell? ⟨w.heap.size, 5, none⟩ = some (.int .i64 mn) ∧ X.cell? ⟨w.heap.size, 6, none⟩ = some (.int .i64 mx) ∧ w.heap.size < X.heap.size := fun X g' hS => by
  have := hS.re
  rw [hrc] at this
  exact ⟨(Lib.cell_of_heap this 5).trans rfl, (Lib.cell_of_heap this 6).trans rfl, lt_blkB this⟩
 have HRCH := Lib.hid HRC
 have HBX : ∀ {X : World} {g' : List St}, TiS B gb st w.heap.size (w.heap.size + 1) w rc cs.toArray g' X → B ≤ X.heap.size := fun hS => Nat.le_trans hB hS.ch.bel.size
 have HC : Hid (∀ X g' s', TiS B gb st w.heap.size (w.heap.size + 1) w rc cs.toArray g' X → s' < g'.length → g'.length ≤ g.length + 4000000 → ¬ mx = 0 → Calls Tryz.prog 39 #[.pointer (some ⟨gb, 0, none⟩), .agg cs.toArray, .int .i64 (s' : Nat)] X (PtQ B gb st (x.B g' s') X)) := Lib.hid (fun X g' s' hS hs hl hm => by
  have hlb : g'.length + x.nn * 8000000 ≤ 1099511627776 := by
   refine Nat.le_trans (Nat.add_le_add_right hl _) (Nat.le_trans ?_ hlen)
   rw [Nat.succ_mul]
   omega
  have := ih B gb st x kv g' s' X hN hok (hlt hm).1 hlb hs hS.gr (HBX hS) (hxi.kept fun k hk _ _ => hS.ch.bel.block k hk)
  unfold Nd.v at this
  rw [← hcs] at this
  exact this)
 have HPU : Hid (∀ X g' y z, TiS B gb st w.heap.size (w.heap.size + 1) w rc cs.toArray g' X → g'.length ≤ g.length + 4000000 → Calls Tryz.prog 63 #[.pointer (some ⟨gb, 0, none⟩), .agg #[.int .i64 4, .int .u64 0, .int .u64 0, .int .u64 0, .int .u64 0, .int .i64 (y : Nat), .int .i64 (z : Nat)]] X fun x w' => x = .returned (.int .i64 (g'.length : Nat)) ∧ GrAt B gb (g' ++ [.fork y z]) st w' ∧ ChG B X w') := Lib.hid (fun X g' y z hS hl => by
  have := put_any B gb g' st (.fork y z) X hS.gr (HBX hS) (by rw [Nat.succ_mul] at hlen; omega)
  rw [fork_cells] at this
  exact this)
 obtain ⟨a, ha⟩ : ∃ a, a = bgnB x.B mx g nx := ⟨_, rfl⟩
 have hgood : ∀ g' s', s' < g'.length → GoodAt [] (fun _ => True) (x.M []) g' s' (x.B g' s') := fun g' s' hs => Nd.good [] (fun _ => True) x hok g' s' hs
 have hlenB : ∀ g' s', (x.B g' s').1.length ≤ g'.length + x.W := Nd.lenB x hok
 have HA : a.2 < a.1.length ∧ a.1.length ≤ g.length + 4001 := by
  rw [ha]
  unfold bgnB
  split
  ·rename_i e
   have h1 := (good_star (l := []) (F := fun _ => True) hgood g nx).lt
   have h2 := len_star hlenB g nx
   have := (hlt (by omega)).2
   exact ⟨h1, by omega⟩
  ·exact ⟨hnx, by show g.length ≤ _; omega⟩
 have HOP : Hid (∀ k, k ≤ (mx - mn).toNat → (optB x.B nx k a.1 a.2).2 < (optB x.B nx k a.1 a.2).1.length ∧ (optB x.B nx k a.1 a.2).1.length ≤ g.length + 1100000) := Lib.hid (fun k hk => by
  cases k with
  | zero => exact ⟨HA.1, by have := HA.2; show a.1.length ≤ _; omega⟩
  | succ k =>
   have hm : ¬ mx = -1 := by omega
   have e : a = (g, nx) := by rw [ha]; unfold bgnB; rw [if_neg hm]
   rw [e]
   have h0' : GoodAt [] (fun _ => True) (fun i j => ∃ q, q ≤ 0 ∧ iterR (x.M []) q i j) g nx (g, nx) := (GoodAt.refl _ _ hnx).congr fun i j => ⟨fun e => ⟨0, Nat.le_refl _, e⟩, fun ⟨q, hq, e⟩ => by
    have e0 : q = 0 := by omega
    subst e0
    exact e⟩
   have h1 := (good_opt (l := []) (F := fun _ => True) hgood hnx (k + 1) 0 g nx h0').lt
   have h2 := len_opt hlenB nx (k + 1) g nx
   have h3 := (hlt (by omega)).2
   have h4 : (k + 1) * (x.W + 1) ≤ 255 * 4001 := Nat.mul_le_mul (by omega) (by omega)
   exact ⟨h1, by show (optB x.B nx (k + 1) g nx).1.length ≤ _; omega⟩)
 obtain ⟨b, hb⟩ : ∃ b, b = optB x.B nx (mx - mn).toNat a.1 a.2 := ⟨_, rfl⟩
 have hbl := HOP.out _ (Nat.le_refl _)
 rw [← hb] at hbl
 obtain ⟨R, hR⟩ : ∃ R, R = timesB x.B mn mx g nx := ⟨_, rfl⟩
 have HRES : Hid (reqB x.B mn.toNat b.1 b.2 = R) := Lib.hid (by rw [hR, hb, ha]; rfl)
 rw [← hR]
 have HWE := Lib.hid hW1
 have HW2 := Lib.hid hW2
 have HW3 := Lib.hid hW3
 have HHA := Lib.hid ha
 have HHB := Lib.hid hb
 have HGD := Lib.hid hgood
 have HLB := Lib.hid hlenB
 have HLT := Lib.hid hlt
 have hcr : W1.cell? ⟨w.heap.size, 8, none⟩ = some (.slice (some ⟨kb, 0, none⟩) 1 kc) := by have := hr1; rw [hrc] at this; exact (Lib.cell_of_heap this 8).trans rfl
 have hwz : w.heap.size < W1.heap.size := by omega
 have HH := Lib.hid h
 clear HRC HBX h hxi hcs hcl hr1 hk2 hb1 hb3 hk3 hbw hcur hW1 hW2 hW3 hrc ih hin hR ha hb hgood hlenB hlt
 unfold zero9 at HW2
 unfold Nd.v Nd.cells
 go_enter Tryz.func65, Tryz.ntmps65
 go_upto_region 1 with fail
 rw [← HWE.out]
 go_upto_region 2 with (first | (refine wpList_load_part rfl 57 _ rfl kb 0 rfl _ cur cs (0, 0) _ HRW.out HCL.out Tryz.underlying57 rfl (by rw [HL9.out]; exact nre_size) ?_) | (rw [← HW2.out]; refine wpList_store_partC rfl 57 _ _ rfl rfl (w.heap.size + 1) 0 cs rfl rfl 57 zero9 HK2.out (by rw [HL9.out]; exact nre_size) (by rw [HL9.out]; decide) HN1.out cs.toArray HSP.out ?_; rw [← HW3.out]) | fail)
 rename_i K1 hK1 K2 hK2
 obtain ⟨bm, hbm⟩ : ∃ bm, bm = (mx == -1) := ⟨_, rfl⟩
 go_cut [8, 18] (fun s8 s18 X => s8 = .int .i64 (nx : Nat) ∧ s18 = .bool bm ∧ X = W3)
 case first =>
  obtain ⟨c5, c6, cz⟩ := HRCH.out _ _ HT0.out
  go_wp2_with fail
  go_meet
  exact ⟨rfl, by rw [hbm], rfl⟩
 obtain ⟨rfl, rfl, rfl⟩ := hcut
 refine hK2 _ _ ?_
 go_cut [8] (fun s8 X => s8 = .int .i64 (a.2 : Nat) ∧ Hid (TiS B gb st w.heap.size (w.heap.size + 1) w rc cs.toArray a.1 X))
 case first =>
  obtain ⟨c5, c6, cz⟩ := HRCH.out _ _ HT0.out
  by_cases hm : mx = -1
  ·subst hm
   have hbt : bm = true := by rw [hbm]; rfl
   clear hbm
   subst hbt
   have HK3 := Lib.hid HT0.out.kid
   go_wp2_with fail
   refine (HPU.out _ _ 0 nx HT0.out (by omega)).mono ?_
   rintro q X1 ⟨rfl, hg1, hc1⟩
   have HT1 := Lib.hid (HT0.out.step hg1 hc1)
   have hk1 := HT1.out.kid
   have HK1 := Lib.hid hk1
   have hk1l := lt_blkB hk1
   obtain ⟨d5, d6, dz⟩ := HRCH.out _ _ HT1.out
   clear hg1 hc1 hk1
   go_wp2_with (first | (refine wpList_load_row rfl 57 _ rfl (w.heap.size + 1) rfl _ cs.toArray (0, 0) _ HK1.out Tryz.underlying57 rfl (by rw [List.size_toArray, HL9.out]; exact nre_size) ?_) | fail)
   refine (HC.out _ _ g.length HT1.out (by simp) (by simp) (by decide)).mono ?_
   rintro q X2 ⟨rfl, hg2, hc2⟩
   have HT2 := Lib.hid (HT1.out.step hg2 hc2)
   have HG1 := Lib.hid (HGD.out (g ++ [.fork 0 nx]) g.length (by simp))
   have hat : (x.B (g ++ [.fork 0 nx]) g.length).1[g.length]? = some (.fork 0 nx) := by
    rw [pre_at HG1.out.pre (by simp), List.getElem?_append_right (Nat.le_refl _), Nat.sub_self]
    rfl
   have hll := pre_len HG1.out.pre
   rw [List.length_append, List.length_singleton] at hll
   have HAE : Hid (a = ((x.B (g ++ [.fork 0 nx]) g.length).1.set g.length (.fork (x.B (g ++ [.fork 0 nx]) g.length).2 nx), g.length)) := Lib.hid (by rw [HHA.out]; unfold bgnB; rw [if_pos rfl]; rfl)
   have HAT := Lib.hid hat
   clear hg2 hc2 hat d5 d6 dz HK1 hk1l
   generalize (x.B (g ++ [.fork 0 nx]) g.length).1 = gq at *
   generalize (x.B (g ++ [.fork 0 nx]) g.length).2 = sq at *
   obtain ⟨g0, cap, u, hgb, hcap, hcu, hfu, hgl, hgr', hch'⟩ := HT2.out.gr.arrow HAT.out sq
   have hgc := (Lib.cell_of_heap hgb 0).trans rfl
   have hgbl := lt_blkB hgb
   have HGR' := Lib.hid hgr'
   have HCH' := Lib.hid (hch' X2 (Nat.le_trans hB HT2.out.ch.bel.size) (ChG.refl _ _))
   have hi1 : (g.length : Int) < (gq.length : Int) := by omega
   have hi0 : (0 : Int) ≤ (g.length : Int) := by omega
   clear hgb hgr' hch'
   go_wp2_with fail
   go_meet
   have hae := HAE.out
   clear HAE HHA HHB HOP HA HRES hbl
   subst hae
   exact ⟨rfl, Lib.hid (HT2.out.step HGR'.out HCH'.out)⟩
  ·have hbf : bm = false := by rw [hbm]; exact beq_eq_false_iff_ne.2 hm
   clear hbm
   subst hbf
   have hae : a = (g, nx) := by rw [HHA.out]; unfold bgnB; rw [if_neg hm]
   clear HHA HHB HOP HA HRES hbl
   subst hae
   go_wp2_with fail
   go_meet
   exact ⟨rfl, Lib.hid HT0.out⟩
 obtain ⟨rfl, HT1⟩ := hcut
 clear hbm HT0
 refine hK1 _ _ ?_
 obtain ⟨c5, c6, cz⟩ := HRCH.out _ _ HT1.out
 have hmx0 : -1 ≤ mx := by omega
 go_upto_region 7 with fail
 go_loopg [8, 40] (mx - mn).toNat (fun gh s8 s40 X => ∃ k : Nat, gh = (mx - mn).toNat - k ∧ k ≤ (mx - mn).toNat ∧ s8 = .int .i64 ((optB x.B nx k a.1 a.2).2 : Nat) ∧ s40 = .int .i64 (k : Nat) ∧ Aside (TiS B gb st w.heap.size (w.heap.size + 1) w rc cs.toArray (optB x.B nx k a.1 a.2).1 X))
 case atStart => exact ⟨0, by omega, Nat.zero_le _, rfl, rfl, HT1.out⟩
 case round =>
  obtain ⟨k, hgh, hk, rfl, rfl, hal⟩ := hrel
  have HTK := Lib.hid hal.out
  clear hal
  have hop := HOP.out k hk
  by_cases hlt : k < (mx - mn).toNat
  ·have hlti : (k : Int) < mx - mn := by omega
   have hm0 : ¬ mx = 0 := by omega
   have HSN : Hid (optB x.B nx (k + 1) a.1 a.2 = ((x.B (optB x.B nx k a.1 a.2).1 (optB x.B nx k a.1 a.2).2).1 ++ [.fork (x.B (optB x.B nx k a.1 a.2).1 (optB x.B nx k a.1 a.2).2).2 nx], (x.B (optB x.B nx k a.1 a.2).1 (optB x.B nx k a.1 a.2).2).1.length)) := Lib.hid (optB_snoc x.B nx k a.1 a.2)
   have hlb := HLB.out (optB x.B nx k a.1 a.2).1 (optB x.B nx k a.1 a.2).2
   have hw4 := (HLT.out hm0).2
   have hk1 := HTK.out.kid
   have HK1 := Lib.hid hk1
   have hk1l := lt_blkB hk1
   have HGH := Lib.hid hgh
   clear hk1 hgh c5 c6 cz
   generalize (optB x.B nx k a.1 a.2).1 = gk at *
   generalize (optB x.B nx k a.1 a.2).2 = sk at *
   go_wp2_with (first | (refine wpList_load_row rfl 57 _ rfl (w.heap.size + 1) rfl _ cs.toArray (0, 0) _ HK1.out Tryz.underlying57 rfl (by rw [List.size_toArray, HL9.out]; exact nre_size) ?_) | fail)
   refine (HC.out _ gk sk HTK.out hop.1 (by omega) hm0).mono ?_
   rintro q X2 ⟨rfl, hg2, hc2⟩
   have HT2 := Lib.hid (HTK.out.step hg2 hc2)
   clear hg2 hc2 HK1 hk1l
   generalize (x.B gk sk).1 = gq at *
   generalize (x.B gk sk).2 = sq at *
   go_wp2_with fail
   refine (HPU.out _ gq sq nx HT2.out (by omega)).mono ?_
   rintro q X3 ⟨rfl, hg3, hc3⟩
   have HT3 := Lib.hid (HT2.out.step hg3 hc3)
   clear hg3 hc3
   go_wp2_with fail
   go_roundg ((mx - mn).toNat - (k + 1))
   case measure => have := HGH.out; omega
   case rel => exact ⟨k + 1, rfl, by omega, by rw [HSN.out], by simp, by rw [HSN.out]; exact HT3.out⟩
  ·have hnl : ¬ (k : Int) < mx - mn := by omega
   have hke : k = (mx - mn).toNat := by omega
   have HKE : Hid ((optB x.B nx k a.1 a.2) = b) := Lib.hid (by rw [hke, HHB.out])
   rw [HKE.out] at HTK ⊢
   clear hke HKE hgh hop
   have HT4 := HTK
   clear HTK HT1
   obtain ⟨d5, d6, dz⟩ := HRCH.out _ _ HT4.out
   clear c5 c6 cz
   go_upto_region 11 with fail
   go_loopg [8, 53] mn.toNat (fun gh s8 s53 X => ∃ (j : Nat) (gk : List St) (sk : Nat), gh = mn.toNat - j ∧ j ≤ mn.toNat ∧ s8 = .int .i64 (sk : Nat) ∧ s53 = .int .i64 (j : Nat) ∧ Aside (reqB x.B (mn.toNat - j) gk sk = R) ∧ Aside (sk < gk.length ∧ gk.length ≤ g.length + 1100000 + j * 4000) ∧ Aside (TiS B gb st w.heap.size (w.heap.size + 1) w rc cs.toArray gk X))
   case atStart => exact ⟨0, b.1, b.2, by omega, Nat.zero_le _, rfl, rfl, by rw [Nat.sub_zero]; exact HRES.out, ⟨hbl.1, by have := hbl.2; omega⟩, HT4.out⟩
   case round =>
    obtain ⟨j, gk, sk, hgh, hj, rfl, rfl, hre, hle, hal⟩ := hrel
    have HRE := Lib.hid hre.out
    have HLE := Lib.hid hle.out
    have HTK := Lib.hid hal.out
    clear hre hle hal
    by_cases hlt : j < mn.toNat
    ·have hlti : (j : Int) < mn := by omega
     have hm0 : ¬ mx = 0 := by omega
     have hj4 : j * 4000 ≤ 255 * 4000 := Nat.mul_le_mul_right _ (by omega)
     have hw4 := (HLT.out hm0).2
     have hlb := HLB.out gk sk
     have hgd := HGD.out gk sk HLE.out.1
     have hql := hgd.lt
     have hk1 := HTK.out.kid
     have HK1 := Lib.hid hk1
     have hk1l := lt_blkB hk1
     have HGH := Lib.hid hgh
     have HST : Hid (reqB x.B (mn.toNat - j) gk sk = if (x.B gk sk).2 = sk then ((x.B gk sk).1, sk) else reqB x.B (mn.toNat - (j + 1)) (x.B gk sk).1 (x.B gk sk).2) := Lib.hid (by
      rw [show mn.toNat - j = (mn.toNat - (j + 1)) + 1 by omega]
      rfl)
     have hl2 := HLE.out.2
     clear hk1 hgh hgd d5 d6 dz
     go_wp2_with (first | (refine wpList_load_row rfl 57 _ rfl (w.heap.size + 1) rfl _ cs.toArray (0, 0) _ HK1.out Tryz.underlying57 rfl (by rw [List.size_toArray, HL9.out]; exact nre_size) ?_) | fail)
     refine (HC.out _ gk sk HTK.out HLE.out.1 (by omega) hm0).mono ?_
     rintro q X2 ⟨rfl, hg2, hc2⟩
     have HT2 := Lib.hid (HTK.out.step hg2 hc2)
     clear hg2 hc2 HK1 hk1l
     by_cases he : (x.B gk sk).2 = sk
     ·have HRR : Hid (R = ((x.B gk sk).1, sk)) := Lib.hid (by rw [← HRE.out, HST.out, if_pos he])
      have HE := Lib.hid he
      rw [he]
      clear he HST HRE
      generalize (x.B gk sk).1 = gq at *
      go_wp2
      go_ret
      have hrr := HRR.out
      subst hrr
      exact ⟨rfl, HT2.out.gr, HT2.out.ch⟩
     ·have hei : (((x.B gk sk).2 : Int) == (sk : Int)) = false := by simp; omega
      have HRE2 : Hid (reqB x.B (mn.toNat - (j + 1)) (x.B gk sk).1 (x.B gk sk).2 = R) := Lib.hid (by rw [← HRE.out, HST.out, if_neg he])
      have hne : ¬ ((x.B gk sk).2 : Int) = (sk : Int) := by omega
      clear he HST HRE
      generalize (x.B gk sk).1 = gq at *
      generalize (x.B gk sk).2 = sq at *
      go_wp2_with fail
      go_roundg (mn.toNat - (j + 1))
      case measure => have := HGH.out; omega
      case rel => exact ⟨j + 1, gq, sq, rfl, by omega, rfl, by simp, HRE2.out, ⟨hql, by rw [Nat.succ_mul]; omega⟩, HT2.out⟩
    ·have hnl2 : ¬ (j : Int) < mn := by omega
     have HRR : Hid (R = (gk, sk)) := Lib.hid (by rw [← HRE.out, show mn.toNat - j = 0 by omega]; rfl)
     clear HRE d5 d6 dz
     go_wp2
     go_ret
     have hrr := HRR.out
     subst hrr
     exact ⟨rfl, HTK.out.gr, HTK.out.ch⟩
theorem part_kid (B gb st : Nat) (kd : Int) (p : Nat → Bool) (mn mx gp : Int) (kids : Fo) (kv : Value) (g : List St) (nx : Nat) (w : World) (hk : kd = 5 ∨ kd = 6) (_h : GrAt B gb g st w) (hB : B ≤ w.heap.size) (hkv : ∃ a m c, kv = .slice a m c) (r : List St × Nat)
  (h5 : kd = 5 → ∀ X, Below w.heap.size w X → Calls Tryz.prog 64 #[.pointer (some ⟨gb, 0, none⟩), kv, .int .i64 (nx : Nat)] X (PtQ B gb st r X))
  (h6 : kd = 6 → ∀ X, Below w.heap.size w X → Calls Tryz.prog 65 #[.pointer (some ⟨gb, 0, none⟩), Nd.v ⟨kd, p, mn, mx, gp, kids⟩ kv, .int .i64 (nx : Nat)] X (PtQ B gb st r X)) :
  Calls Tryz.prog 39 #[.pointer (some ⟨gb, 0, none⟩), Nd.v ⟨kd, p, mn, mx, gp, kids⟩ kv, .int .i64 (nx : Nat)] w (PtQ B gb st r w) := by
 obtain ⟨ka, km, kc, rfl⟩ := hkv
 obtain ⟨W, hW⟩ : ∃ W, W = ((w.alloc (.cells #[.pointer (some ⟨gb, 0, none⟩)] 71)).alloc (.cells #[.int .i64 kd, .int .u64 (sw p 0 : Nat), .int .u64 (sw p 1 : Nat), .int .u64 (sw p 2 : Nat), .int .u64 (sw p 3 : Nat), .int .i64 mn, .int .i64 mx, .int .i64 gp, .slice ka km kc] 57)).alloc (.cells #[.int .i64 (nx : Nat)] 3) := ⟨_, rfl⟩
 have hb0 : W.heap[w.heap.size]? = some (.cells #[.pointer (some ⟨gb, 0, none⟩)] 71 (0, 0)) := by rw [hW]; exact blk_alloc (blk_alloc (alloc_last w _) _) _
 have hb1 : W.heap[w.heap.size + 1]? = some (.cells #[.int .i64 kd, .int .u64 (sw p 0 : Nat), .int .u64 (sw p 1 : Nat), .int .u64 (sw p 2 : Nat), .int .u64 (sw p 3 : Nat), .int .i64 mn, .int .i64 mx, .int .i64 gp, .slice ka km kc] 57 (0, 0)) := by rw [hW]; refine blk_alloc ?_ _; have := alloc_last (w.alloc (.cells #[.pointer (some ⟨gb, 0, none⟩)] 71)) (.cells #[.int .i64 kd, .int .u64 (sw p 0 : Nat), .int .u64 (sw p 1 : Nat), .int .u64 (sw p 2 : Nat), .int .u64 (sw p 3 : Nat), .int .i64 mn, .int .i64 mx, .int .i64 gp, .slice ka km kc] 57); simpa using this
 have hb2 : W.heap[w.heap.size + 2]? = some (.cells #[.int .i64 (nx : Nat)] 3 (0, 0)) := by rw [hW]; have := alloc_last ((w.alloc (.cells #[.pointer (some ⟨gb, 0, none⟩)] 71)).alloc (.cells #[.int .i64 kd, .int .u64 (sw p 0 : Nat), .int .u64 (sw p 1 : Nat), .int .u64 (sw p 2 : Nat), .int .u64 (sw p 3 : Nat), .int .i64 mn, .int .i64 mx, .int .i64 gp, .slice ka km kc] 57)) (.cells #[.int .i64 (nx : Nat)] 3); simpa using this
 have hb : Below w.heap.size w W := by rw [hW]; exact (((Below.refl _ _).alloc (Nat.le_refl _) _).alloc (by simp) _).alloc (by simp; omega) _
 have HC : Hid (ChG B w W) := Lib.hid (ChG.below hb hB)
 have c0 : W.cell? ⟨w.heap.size, 0, none⟩ = some (.pointer (some ⟨gb, 0, none⟩)) := (Lib.cell_of_heap hb0 0).trans rfl
 obtain ⟨r0, r1, r2, r3, r4, r5, r6, r7, r8, rz⟩ := cells9s hb1
 have d0 : W.cell? ⟨w.heap.size + 2, 0, none⟩ = some (.int .i64 (nx : Nat)) := (Lib.cell_of_heap hb2 0).trans rfl
 have hwz : w.heap.size + 2 < W.heap.size := lt_blkB hb2
 have HWE := Lib.hid hW
 have HB := Lib.hid hb
 have H5 := Lib.hid h5
 have H6 := Lib.hid h6
 have HB1 := Lib.hid hb1
 unfold PtQ
 clear hb0 hb1 hb2 hb _h hW h5 h6
 rcases hk with rfl | rfl
 ·have HX := Lib.hid (H5.out rfl W HB.out)
  unfold PtQ at HX
  clear H5 H6
  unfold Nd.v Nd.cells
  go_enter Tryz.func39, Tryz.ntmps39
  go_upto_region 1 with fail
  rw [← HWE.out]
  go_wp2_with fail
  refine HX.out.mono ?_
  rintro x w1 ⟨rfl, hg1, hc1⟩
  have HG1 := Lib.hid hg1
  have HC1 := Lib.hid hc1
  clear hg1 hc1
  go_wp2
  go_ret
  exact ⟨rfl, HG1.out, HC.out.trans HC1.out⟩
 ·have HX := Lib.hid (H6.out rfl W HB.out)
  unfold PtQ at HX
  clear H5 H6
  unfold Nd.v Nd.cells at HX ⊢
  go_enter Tryz.func39, Tryz.ntmps39
  go_upto_region 1 with fail
  rw [← HWE.out]
  go_wp2_with (first | (refine wpList_load_row rfl 57 _ rfl (w.heap.size + 1) rfl _ _ (0, 0) _ HB1.out Tryz.underlying57 rfl nre_size ?_) | fail)
  refine HX.out.mono ?_
  rintro x w1 ⟨rfl, hg1, hc1⟩
  have HG1 := Lib.hid hg1
  have HC1 := Lib.hid hc1
  clear hg1 hc1
  go_wp2
  go_ret
  exact ⟨rfl, HG1.out, HC.out.trans HC1.out⟩
theorem fo_one : ∀ (l : List Nd), l.length = 1 → ∃ x, l = [x]
 | [x], _ => ⟨x, rfl⟩
theorem ndB_rep (p : Nat → Bool) (mn mx : Int) (C A : GB) (g : List St) (nx : Nat) : ndB 6 p mn mx C A g nx = timesB C mn mx g nx := by
 unfold ndB
 rw [if_neg (by decide), if_neg (by decide), if_neg (by decide), if_neg (by decide), if_pos rfl]
theorem ndB_alt (p : Nat → Bool) (mn mx : Int) (C A : GB) (g : List St) (nx : Nat) : ndB 5 p mn mx C A g nx = A g nx := by
 unfold ndB
 rw [if_neg (by decide), if_neg (by decide), if_neg (by decide), if_pos rfl]
theorem part_all : ∀ N, PtOk N
 | 0 => fun B gb st nd kv g nx w h => by unfold Nd.nn at h; omega
 | N + 1 => by
  intro B gb st nd kv g nx w hN hok hlt hlen hnx hg hB hin
  have ih := part_all N
  obtain ⟨kd, p, mn, mx, gp, kids⟩ := nd
  have hkv := hin.shape
  have hnn : Nd.nn ⟨kd, p, mn, mx, gp, kids⟩ = 1 + kids.nn := rfl
  rw [hnn] at hN hlen
  by_cases h1 : kd = 1 ∨ kd = 2 ∨ kd = 3
  ·exact part_leaf B gb st kd p mn mx gp kids kv g nx w h1 (by omega) hg hB hkv
  obtain ⟨l, rfl⟩ : ∃ l, kids = fo l := ⟨kids.toL, (fo_toL kids).symm⟩
  obtain ⟨ka, km, kc, rfl⟩ := hkv
  have hlen' : g.length + ((fo l).nn + 1) * 8000000 ≤ 1099511627776 := by rw [Nat.add_comm (fo l).nn 1]; exact hlen
  have hN' : (fo l).nn ≤ N := by omega
  have hok2 : (fo l).Ok := hok.2
  by_cases h6 : kd = 6
  ·obtain ⟨hm0, hmx, hm1, hm2, hl1⟩ := hok.1.2 h6
   have hl1' : l.length = 1 := by rw [← fo_len]; exact hl1
   obtain ⟨x, rfl⟩ := fo_one l hl1'
   have hxn : (fo [x]).nn = x.nn := by show 1 + x.kids.nn + 0 = 1 + x.kids.nn; omega
   rw [hxn] at hN' hlen'
   refine part_kid B gb st kd p mn mx gp (fo [x]) (.slice ka km kc) g nx w (Or.inr h6) hg hB ⟨_, _, _, rfl⟩ _ (fun e => by omega) (fun _ X hX => ?_)
   have e : Nd.B ⟨kd, p, mn, mx, gp, fo [x]⟩ g nx = timesB x.B mn mx g nx := by
    show ndB kd p mn mx _ _ g nx = _
    rw [h6, ndB_rep]
    have e2 : (fo [x]).B true = x.B := by
     funext g nx
     show (Fo.cons _ _ _ _ _ _ Fo.nil).B true g nx = _
     conv => lhs; unfold Fo.B
     rfl
    rw [e2]
   rw [e]
   exact times_any N ih B gb st kd p mn mx gp x ka km kc g nx X (hg.below hX) (Nat.le_trans hB hX.size) hm0 hmx hm1 hm2 hN' ⟨hok2.1, hok2.2.1⟩ (fun hz => by
    obtain ⟨h7, h8, _⟩ := hlt h1 (fun e => hz e.2)
    exact ⟨h7.1, by have h8' : x.W + 0 ≤ 4000 := h8; omega⟩) hlen' hnx (hin.below hX)
  obtain ⟨hlt2, hW, hll⟩ := hlt h1 (fun e => h6 e.1)
  rw [fo_len] at hll
  by_cases h5 : kd = 5
  ·have hl0 : 0 < l.length := by have := hok.1.1 h5; rw [fo_len] at this; exact this
   refine part_kid B gb st kd p mn mx gp (fo l) (.slice ka km kc) g nx w (Or.inl h5) hg hB ⟨_, _, _, rfl⟩ _ (fun _ X hX => ?_) (fun e => by omega)
   have e : Nd.B ⟨kd, p, mn, mx, gp, fo l⟩ g nx = (fo l).B false g nx := by
    show ndB kd p mn mx _ _ g nx = _
    rw [h5, ndB_alt]
   rw [e]
   exact either_any N ih B gb st ⟨kd, p, mn, mx, gp, fo l⟩ l (l.length - 1) (by omega) ka km kc g nx X (hg.below hX) (Nat.le_trans hB hX.size) rfl hN' hok2 hlt2 hW hll hlen' hnx (hin.below hX)
  ·exact part_row N ih B gb st kd p mn mx gp l ka km kc g nx w (by omega) hg hB hN' hok2 hlt2 hW hll hlen' hnx hin
theorem blk_set1b {X : World} {b : Nat} {u v y : Value} {T : TypeId} (h : X.heap[b]? = some (.cells #[u, v] T (0, 0))) : (X.setCell ⟨b, 1, none⟩ y).heap[b]? = some (.cells #[u, y] T (0, 0)) := blk_set1 h
theorem GrAt.start {B gb st : Nat} {g : List St} {X : World} (h : GrAt B gb g st X) (st' : Nat) : GrAt B gb g st' (X.setCell ⟨gb, 1, none⟩ (.int .i64 (st' : Nat))) := by
 obtain ⟨h0, v, h1, h2⟩ := h
 exact ⟨h0, v, blk_set1b h1, own_set h2 h1 (by decide) _ _⟩
def OfQ (nd : Nd) (w : World) (x : Ending) (w' : World) : Prop := ∃ gb, x = .returned (.pointer (some ⟨gb, 0, none⟩)) ∧ GrAt w.heap.size gb nd.G.1 nd.G.2 w' ∧ Below w.heap.size w w'
theorem gof_any (S : Nat → Prop) (nd : Nd) (kv : Value) (w : World) (hok : nd.Ok) (hlt : nd.Lt) (hnn : nd.nn ≤ 1100) (hin : nd.In w S kv) :
  Calls Tryz.prog 24 #[nd.v kv] w (OfQ nd w) := by
 obtain ⟨ka, km, kc, rfl⟩ := hin.shape
 obtain ⟨cs, hcs⟩ : ∃ cs, cs = nd.cells (.slice ka km kc) := ⟨_, rfl⟩
 have hvv : nd.v (.slice ka km kc) = .agg cs.toArray := by rw [hcs]; rfl
 obtain ⟨W1, hW1⟩ : ∃ W1, W1 = (w.alloc (.cells cs.toArray 57)).alloc (.cells #[.int .i64 0, .int .u64 0, .int .u64 0, .int .u64 0, .int .u64 0, .int .i64 0, .int .i64 0] 103) := ⟨_, rfl⟩
 obtain ⟨W, hW⟩ : ∃ W, W = W1.alloc (.cells #[.slice (some ⟨w.heap.size + 1, 0, none⟩) 1 1, .int .i64 0] 106) := ⟨_, rfl⟩
 have hz1 : W1.heap.size = w.heap.size + 2 := by rw [hW1]; simp
 have hb1 : Below w.heap.size w W1 := by rw [hW1]; exact ((Below.refl _ _).alloc (Nat.le_refl _) _).alloc (by simp) _
 have hb : Below w.heap.size w W := by rw [hW]; exact hb1.alloc (by omega) _
 have hr0 : W.heap[w.heap.size]? = some (.cells cs.toArray 57 (0, 0)) := by rw [hW, hW1]; exact blk_alloc (blk_alloc (alloc_last w _) _) _
 have hr1 : W.heap[w.heap.size + 1]? = some (.cells #[.int .i64 0, .int .u64 0, .int .u64 0, .int .u64 0, .int .u64 0, .int .i64 0, .int .i64 0] 103 (0, 0)) := by
  rw [hW, hW1]
  refine blk_alloc ?_ _
  have := alloc_last (w.alloc (.cells cs.toArray 57)) (.cells #[.int .i64 0, .int .u64 0, .int .u64 0, .int .u64 0, .int .u64 0, .int .i64 0, .int .i64 0] 103)
  simpa using this
 have hr2 : W.heap[w.heap.size + 1 + 1]? = some (.cells #[.slice (some ⟨w.heap.size + 1, 0, none⟩) 1 1, .int .i64 0] 106 (0, 0)) := by
  have := alloc_last W1 (.cells #[.slice (some ⟨w.heap.size + 1, 0, none⟩) 1 1, .int .i64 0] 106)
  rw [hz1] at this
  rw [hW]
  exact this
 have ha : (rowS [.acc]).toArray = #[.int .i64 0, .int .u64 0, .int .u64 0, .int .u64 0, .int .u64 0, .int .i64 0, .int .i64 0] := by
  show (stC 0 noP 0 0 ++ []).toArray = _
  rw [List.append_nil, stC_no]
  rfl
 have HG : Hid (GrAt w.heap.size (w.heap.size + 1 + 1) [.acc] 0 W) := Lib.hid ⟨by omega, _, hr2, rfl, Or.inr ⟨w.heap.size + 1, 1, _, rfl, by omega, hr1, by decide, by decide, rfl, by rw [← ha]; rfl⟩⟩
 have hin' : nd.In w (fun b => b < w.heap.size) (.slice ka km kc) := hin.mono fun k _ hk => hk
 have HP := Lib.hid (part_all nd.nn w.heap.size (w.heap.size + 1 + 1) 0 nd (.slice ka km kc) [.acc] 0 W (Nat.le_refl _) hok hlt (by simp; omega) (by simp) HG.out hb.size (hin'.below hb))
 rw [hvv]
 rw [hvv] at HP
 have HR0 := Lib.hid hr0
 have HBW := Lib.hid hb
 have HWE := Lib.hid hW
 have HW1 := Lib.hid hW1
 have hL9 : Hid (cs.length = 9) := Lib.hid (by rw [hcs]; exact Nd.cells_len _ _)
 have hzz : w.heap.size + 1 + 1 < W.heap.size := lt_blkB hr2
 unfold PtQ at HP
 unfold OfQ
 rw [show nd.G = nd.B [.acc] 0 from rfl]
 generalize nd.B [.acc] 0 = r at *
 clear hcs hvv hW1 hW hb1 hb hr0 hr1 hr2 ha hin hin' hok hlt
 obtain ⟨ca, hca⟩ : ∃ ca, ca = cs.toArray := ⟨_, rfl⟩
 rw [← hca] at HP HR0 HW1 ⊢
 have hLA : Hid ((Tryz.prog.info? 57).map (·.size) = some ca.size) := Lib.hid (by rw [hca, List.size_toArray, hL9.out]; exact nre_size)
 clear hca
 go_enter Tryz.func24, Tryz.ntmps24
 go_upto_region 2 with fail
 rw [← HW1.out]
 rw [← HWE.out]
 go_wp2_with (first | (refine wpList_load_row rfl 57 _ rfl w.heap.size rfl _ ca (0, 0) _ HR0.out Tryz.underlying57 rfl hLA.out ?_) | fail)
 refine HP.out.mono ?_
 rintro x w1 ⟨rfl, hg1, hc1⟩
 obtain ⟨v, hv1, hv2⟩ := hg1.row
 have hcv := (Lib.cell_of_heap hv1 1).trans rfl
 have hfv := row_freeN hv1 1
 have hvl := lt_blkB hv1
 have HG1 := Lib.hid (hg1.start r.2)
 have HC1 : Hid (Below w.heap.size w (w1.setCell ⟨w.heap.size + 1 + 1, 1, none⟩ (.int .i64 (r.2 : Nat)))) := Lib.hid ((HBW.out.trans hc1.bel).setCell (p := ⟨w.heap.size + 1 + 1, 1, none⟩) (by simp; omega) _)
 clear hg1 hc1 hv1 hv2
 go_wp2
 go_ret
 exact ⟨_, rfl, HG1.out, HC1.out⟩
set_option maxHeartbeats 2000000 in
theorem glen_any (B gb st : Nat) (g : List St) (w : World) (h : GrAt B gb g st w) :
  Calls Tryz.prog 26 #[.pointer (some ⟨gb, 0, none⟩)] w fun x w' => x = .returned (.int .i64 (g.length : Nat)) ∧ w' = w := by
 obtain ⟨h0, v, h1, h2⟩ := h
 obtain ⟨a, c, rfl⟩ := own_shapeR h2
 have hcv := (Lib.cell_of_heap h1 0).trans rfl
 have hvl := lt_blkB h1
 clear h1 h2
 go_enter Tryz.func26, Tryz.ntmps26
 go_wp2
 go_ret
 exact ⟨rfl, rfl⟩
theorem GrAt.at {B gb st : Nat} {g : List St} {X : World} (h : GrAt B gb g st X) {k : Nat} {s : St} (hk : g[k]? = some s) :
  ∃ g0 cap cur, X.cell? ⟨gb, 0, none⟩ = some (.slice (some ⟨g0, 0, none⟩) g.length cap) ∧ gb < X.heap.size ∧ X.heap[g0]? = some (.cells cur 103 (0, 0)) ∧ ∀ i u, s.cells[i]? = some u → cur[k * 7 + i]? = some u := by
 obtain ⟨h0, v, h1, hl, ⟨rfl, hz⟩ | ⟨g0, cap, cur, rfl, hB, hg, hnc, hcm, hcs, htk⟩⟩ := h
 ·rw [List.length_eq_zero_iff.1 hz] at hk
  simp at hk
 have hkl : k < g.length := (List.getElem?_eq_some_iff.1 hk).1
 refine ⟨g0, cap, cur, (Lib.cell_of_heap h1 0).trans rfl, lt_blkB h1, hg, fun i u hu => ?_⟩
 have hi : i < 7 := by have := (List.getElem?_eq_some_iff.1 hu).1; rwa [St.cells_len] at this
 have h2 := rowS_at g k s hk i hi
 rw [hu, ← htk, List.getElem?_take, if_pos (by omega)] at h2
 simpa using h2
theorem GrAt.st {B gb st : Nat} {g : List St} {X : World} (h : GrAt B gb g st X) : X.cell? ⟨gb, 1, none⟩ = some (.int .i64 (st : Nat)) ∧ gb < X.heap.size := by
 obtain ⟨_, v, h1, _⟩ := h
 exact ⟨(Lib.cell_of_heap h1 1).trans rfl, lt_blkB h1⟩
set_option maxHeartbeats 4000000 in
theorem place_of (a n : Nat) (w : World) :
  Calls Tryz.prog 42 #[.int .i64 (a : Nat), .int .i64 (n : Nat)] w fun r w' => r = .returned (.agg #[.bool (decide (a = 0)), .bool (decide (a = n))]) ∧ Below w.heap.size w w' := by
 have h0 : ((a : Int) == 0) = decide (a = 0) := by rw [Bool.eq_iff_iff]; simp
 have h1 : ((a : Int) == (n : Int)) = decide (a = n) := by rw [Bool.eq_iff_iff]; simp; omega
 have HB : Hid (∀ o : Obj, Below w.heap.size w (w.alloc o)) := Lib.hid (fun o => (Below.refl _ _).alloc (Nat.le_refl _) _)
 go_enter Tryz.func42, Tryz.ntmps42
 go_wp2
 refine bodyPost_ret (by simp [results, Tryz.results42, go_sem]) rfl ⟨rfl, HB.out _⟩
end Go.Proofs.YtnpkcllbpnmabaaGreatDoor
