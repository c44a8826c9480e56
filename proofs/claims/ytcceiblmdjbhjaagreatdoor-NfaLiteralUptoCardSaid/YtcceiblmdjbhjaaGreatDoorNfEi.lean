/- either: parts of which one is gone through (gen_nfei.py). -/
import Derived.Test.YtcceiblmdjbhjaaGreatDoorKNb
import Derived.Test.YtcceiblmdjbhjaaGreatDoorLiIn
namespace Go.Proofs.YtcceiblmdjbhjaaGreatDoor
open Go.RowKit Go.Shelf

attribute [local go_sem] Oper.semAt_some

/-- The state within the first drawn region: the last part is built (6), a number is laid (7), stored (8). -/
structure EiA (B gb st x0 x1 : Nat) (w W : World) (kb : Nat) (cur : Array Value) (g g1 : List St) (nx s1 : Nat) (d6 d7 d8 : Bool) (u7 : Value) (X : World) : Prop where
  ch : ChG B w X
  size : W.heap.size ≤ X.heap.size
  gr : GrAt B gb (if d6 = true then g1 else g) st X
  b0 : X.heap[x0]? = some (.cells #[.pointer (some ⟨gb, 0, none⟩)] 66 (0, 0))
  b1 : X.heap[x1]? = some (.cells #[.int .i64 (nx : Nat)] 3 (0, 0))
  row : X.heap[kb]? = some (.cells cur 29 (0, 0))
  new : d7 = true → d8 = false → ∃ b, u7 = .pointer (some ⟨b, 0, none⟩) ∧ W.heap.size ≤ b ∧ X.heap[b]? = some (.cells #[.int .i64 0] 3 (0, 0))
  out : d8 = true → ∃ b, u7 = .pointer (some ⟨b, 0, none⟩) ∧ W.heap.size ≤ b ∧ X.heap[b]? = some (.cells #[.int .i64 (s1 : Nat)] 3 (0, 0))
/-- .. within a round's: the part is built (4), its fork put in (7), stored (8). -/
structure EiB (B gb st x0 x1 x8 Bx : Nat) (w W : World) (cs : Array Value) (g g1 : List St) (nx s s1 : Nat) (f : St) (d4 d7 d8 : Bool) (X : World) : Prop where
  ch : ChG B w X
  kp : KeepsOthers W X
  ct : ChT W X
  gr : GrAt B gb (if d7 = true then g1 ++ [f] else if d4 = true then g1 else g) st X
  b0 : X.heap[x0]? = some (.cells #[.pointer (some ⟨gb, 0, none⟩)] 66 (0, 0))
  b1 : X.heap[x1]? = some (.cells #[.int .i64 (nx : Nat)] 3 (0, 0))
  b8 : X.heap[x8]? = some (.cells #[.int .i64 (if d8 = true then (g1.length : Int) else (s : Nat))] 3 (0, 0))
  kid : X.heap[Bx]? = some (.cells cs 29 (0, 0))
theorem kids_cap {S : Nat → Prop} {w : World} {n : Nd} {ka : Option Addr} {km kc : Nat} (hin : n.In w S (.slice ka km kc)) : n.kids.len ≤ kc := by
  obtain ⟨ks, ⟨hown, _⟩, _⟩ := hin
  obtain ⟨_, ⟨_, hz⟩ | ⟨g, cap, cur, hv, _, _, hnc, _⟩⟩ := hown
  · omega
  · simp only [Value.slice.injEq] at hv
    obtain ⟨_, _, rfl⟩ := hv
    exact hnc
theorem fork_cells (y z : Nat) : (St.fork y z).cells.toArray = #[.int .i64 4, .int .u64 0, .int .u64 0, .int .u64 0, .int .u64 0, .int .i64 (y : Nat), .int .i64 (z : Nat)] := stC_no 4 y z

set_option maxRecDepth 100000 in
set_option maxHeartbeats 16000000 in
theorem either_any (N : Nat) (ih : PtOk N) (B gb st : Nat) (n : Nd) (l : List Nd) (m : Nat) (hm : l.length = m + 1) (ka : Option Addr) (km kc : Nat) (g : List St) (nx : Nat) (w : World) (h : GrAt B gb g st w) (hB : B ≤ w.heap.size) (hnk : n.kids = fo l)
    (hN : (fo l).nn ≤ N) (hok : (fo l).Ok) (hlt : (fo l).Lt) (hW : (fo l).W ≤ 4000) (hll : l.length ≤ 1100) (hlen : g.length + ((fo l).nn + 1) * 8000000 ≤ 1099511627776) (hnx : nx < g.length) (hin : n.In w (fun b => b < B) (.slice ka km kc)) :
    Calls Tryz.prog 91 #[.pointer (some ⟨gb, 0, none⟩), .slice ka km kc, .int .i64 (nx : Nat)] w (PtQ B gb st ((fo l).B false g nx) w) := by
  have hcap := kids_cap hin
  rw [hnk, fo_len, hm] at hcap
  obtain ⟨hkm, kvs, hks, hki, hkc⟩ := kids_vs hnk hin
  subst hkm
  obtain ⟨R, hR⟩ : ∃ R, R = (fo l).B false g nx := ⟨_, rfl⟩
  rw [← hR]
  have HRES : Hid (R = altB l nx (downL m m) ((kidAt l m).B g nx)) := Lib.hid (by rw [altB_all l g nx m hm, hR])
  have hl0 : 0 < l.length := by omega
  obtain ⟨kb, cur, hka, hkb, hcur, hcl⟩ : ∃ b cur, ka = some ⟨b, 0, none⟩ ∧ b < B ∧ w.heap[b]? = some (.cells cur 29 (0, 0)) ∧ ∀ k, k < l.length → ∀ i u, ((kidAt l k).cells (kvs k))[i]? = some u → cur[k * 9 + i]? = some u := by
    rcases hkc with h0 | h0
    · omega
    · exact h0
  subst hka
  have HG := Lib.hid h
  have HKI := Lib.hid hki
  have HKS := Lib.hid hks
  have HOK := Lib.hid hok
  have HLT := Lib.hid hlt
  have HIH := Lib.hid ih
  have HCL := Lib.hid hcl
  have hnn := Fo.len_nn (fo l)
  rw [fo_len] at hnn
  have HM := Lib.hid hm
  rw [hm]
  obtain ⟨W1, hW1⟩ : ∃ W1, W1 = (w.alloc (.cells #[.pointer (some ⟨gb, 0, none⟩)] 66)).alloc (.cells #[.int .i64 (nx : Nat)] 3) := ⟨_, rfl⟩
  have hb : Below w.heap.size w W1 := by rw [hW1]; exact ((Below.refl _ _).alloc (Nat.le_refl _) _).alloc (by simp) _
  have hz1 : W1.heap.size = w.heap.size + 2 := by rw [hW1]; simp
  have HB0 : Hid (W1.heap[w.heap.size]? = some (.cells #[.pointer (some ⟨gb, 0, none⟩)] 66 (0, 0))) := Lib.hid (by rw [hW1]; exact blk_alloc (alloc_last w _) _)
  have HB1 : Hid (W1.heap[w.heap.size + 1]? = some (.cells #[.int .i64 (nx : Nat)] 3 (0, 0))) := Lib.hid (by rw [hW1]; have := alloc_last (w.alloc (.cells #[.pointer (some ⟨gb, 0, none⟩)] 66)) (.cells #[.int .i64 (nx : Nat)] 3); simpa using this)
  have HBW := Lib.hid hb
  have HC1 : Hid (ChG B w W1) := Lib.hid (ChG.below hb hB)
  have HG1 : Hid (GrAt B gb g st W1) := Lib.hid (h.below hb)
  have HRW : Hid (W1.heap[kb]? = some (.cells cur 29 (0, 0))) := Lib.hid (blk_below hcur hb)
  have hkm : (kidAt l m).nn ≤ (fo l).nn := by
    unfold kidAt
    rw [List.getElem?_eq_getElem (by omega)]
    exact nn_at l _ _
  have hlm : (kidAt l m).Lt := by
    unfold kidAt
    rw [List.getElem?_eq_getElem (by omega)]
    exact lt_at l hlt _ _
  have hmul : (kidAt l m).nn * 8000000 ≤ (fo l).nn * 8000000 := Nat.mul_le_mul_right _ hkm
  have hmb : g.length + (kidAt l m).nn * 8000000 ≤ 1099511627776 := Nat.le_trans (Nat.add_le_add_left (Nat.le_trans hmul (Nat.mul_le_mul_right _ (Nat.le_succ _))) _) hlen
  have hm11 : m ≤ 1100 := by omega
  have hmN : (kidAt l m).nn ≤ N := by omega
  have HPM : Hid (∀ X, ChG B w X → GrAt B gb g st X → Calls Tryz.prog 70 #[.pointer (some ⟨gb, 0, none⟩), (kidAt l m).v (kvs m), .int .i64 (nx : Nat)] X (PtQ B gb st ((kidAt l m).B g nx) X)) := Lib.hid (fun X hX hg => ih B gb st (kidAt l m) (kvs m) g nx X hmN (kidAt_ok hok hl0 m) hlm hmb hnx hg (Nat.le_trans hB hX.bel.size) ((hki hl0 m).kept fun k hk _ _ => hX.bel.block k hk))
  have HL9 : Hid (((kidAt l m).cells (kvs m)).length = 9) := Lib.hid (Nd.cells_len _ _)
  have HCM : Hid (∀ i u, ((kidAt l m).cells (kvs m))[i]? = some u → cur[m * 9 + i]? = some u) := Lib.hid (hcl m (by omega))
  have hl1 := (Nd.lenB _ (kidAt_ok hok hl0 m)) g nx
  have hw1 := kidAt_w hl0 m (l := l)
  have hgd := Nd.good [] (fun _ => True) _ (kidAt_ok hok hl0 m) g nx hnx
  have hgl : nx < ((kidAt l m).B g nx).1.length := Nat.lt_of_lt_of_le hnx (pre_len hgd.pre)
  have hmi : (m : Int) < (m : Int) + 1 := by omega
  have hm0 : (0 : Int) ≤ (m : Int) := by omega
  have hms : ((m + 1 : Nat) : Int) - 1 = (m : Int) := by omega
  have HWE := Lib.hid hW1
  have HHW := Lib.hid hW
  clear h hin hki hkc hks hok hlt ih hnk hR hcur hcl hb hW1 hm hgd hlm hmul hkm hmb hmN
  unfold Nd.v at HPM
  generalize hcs : (kidAt l m).cells (kvs m) = csm at HPM HL9 HCM
  clear hcs
  obtain ⟨g1, hg1⟩ : ∃ g1, g1 = ((kidAt l m).B g nx).1 := ⟨_, rfl⟩
  obtain ⟨s1, hs1⟩ : ∃ s1, s1 = ((kidAt l m).B g nx).2 := ⟨_, rfl⟩
  have HGS : Hid ((kidAt l m).B g nx = (g1, s1)) := Lib.hid (by rw [hg1, hs1])
  rw [HGS.out] at HPM
  rw [← hg1] at hl1 hgl
  clear hg1 hs1
  refine (callsIn_wide (n := 3)).1 ?_
  refine callsIn_of_wp_marks Tryz.func91 rfl trivial ?_ rfl
  refine wpIn_wide.2 ?_
  simp only [Tryz.ntmps91, List.size_toArray, List.length_cons, List.length_nil, Nat.reduceAdd, Nat.reduceSub, Array.replicate_succ, Array.replicate_zero, List.push_toArray, List.append_toArray, List.nil_append, List.cons_append]
  go_upto_region 1 with fail
  rw [← HWE.out]
  go_upto_region 2 with fail
  have hC0 : ChG B w W1.drew := HC1.out.trans (ChG.below (Below.refl _ _).drew (Nat.le_trans hB HC1.out.bel.size))
  have hG0 : GrAt B gb g st W1.drew := HG1.out.below (Below.refl _ _).drew
  refine Reg.wp_region_sto (fun L u X => EiA B gb st w.heap.size (w.heap.size + 1) w W1 kb cur g g1 nx s1 (L 6) (L 7) (L 8) (u 7) X) (fun j => ([some (.pointer (some ⟨gb, 0, none⟩)), some (.slice (some ⟨kb, 0, none⟩) (m + 1) kc), some (.int .i64 (m : Nat)), some (.pointer (some ⟨kb, m * 9, none⟩)), some (.agg csm.toArray), some (.int .i64 (nx : Nat)), some (.int .i64 (s1 : Nat)), none, none] : List (Option Value)).getD j none) (by kernel_rfl) (by kernel_rfl) (by kernel_rfl) (by kernel_rfl) ?rs0 ?rsE ?rsZ
  case rs0 => exact ⟨hC0, Nat.le_refl _, hG0, HB0.out, HB1.out, HRW.out, fun h => (by cases h), fun h => (by cases h)⟩
  case rsE =>
    refine Reg.EachG.plain rfl (fun L u T X hL hz hS hk K hK => ?_) ?_
    · skip
      have g3 : T[3]? = some (.pointer (some ⟨w.heap.size, 0, none⟩)) := hk.old 3 (by kernel_rfl) rfl
      have c0 := (Lib.cell_of_heap hS.b0 0).trans rfl
      have hK := hK _ X ⟨hS.ch, hS.size, hS.gr, hS.b0, hS.b1, hS.row, hS.new, hS.out⟩ (fun _ hx => Option.some.inj hx)
      clear hk hz hL
      go_simp
      exact hK
    refine Reg.EachG.plain rfl (fun L u T X hL hz hS hk K hK => ?_) ?_
    · skip
      have g1 : T[1]? = some (.slice (some ⟨kb, 0, none⟩) (m + 1) kc) := hk.old 1 (by kernel_rfl) rfl
      have hK := hK _ X ⟨hS.ch, hS.size, hS.gr, hS.b0, hS.b1, hS.row, hS.new, hS.out⟩ (fun _ hx => Option.some.inj hx)
      clear hk hz hL
      go_simp
      exact hK
    refine Reg.EachG.plain rfl (fun L u T X hL hz hS hk K hK => ?_) ?_
    · skip
      have g7 : T[7]? = some (.int .i64 (m : Nat)) := hk.old 7 (by kernel_rfl) rfl
      have hK := hK _ X ⟨hS.ch, hS.size, hS.gr, hS.b0, hS.b1, hS.row, hS.new, hS.out⟩ (fun _ hx => Option.some.inj hx)
      clear hk hz hL
      go_simp
      exact hK
    refine Reg.EachG.plain rfl (fun L u T X hL hz hS hk K hK => ?_) ?_
    · skip
      have g15 : T[15]? = some (.slice (some ⟨kb, 0, none⟩) (m + 1) kc) := hk.val 1 15 (by kernel_rfl) (by kernel_rfl) rfl
      have g16 : T[16]? = some (.int .i64 (m : Nat)) := hk.val 2 16 (by kernel_rfl) (by kernel_rfl) rfl
      have hK := hK _ X ⟨hS.ch, hS.size, hS.gr, hS.b0, hS.b1, hS.row, hS.new, hS.out⟩ (fun _ hx => Option.some.inj hx)
      clear hk hz hL
      go_simp
      exact hK
    refine Reg.EachG.plain rfl (fun L u T X hL hz hS hk K hK => ?_) ?_
    · skip
      have g17 : T[17]? = some (.pointer (some ⟨kb, m * 9, none⟩)) := hk.val 3 17 (by kernel_rfl) (by kernel_rfl) rfl
      refine wp_load_part 29 _ rfl kb (m * 9) (by simp [Act.eval, g17]) _ cur csm (0, 0) _ hS.row HCM.out Tryz.underlying29 rfl (by rw [HL9.out]; exact nre_size) ?_
      exact hK _ X ⟨hS.ch, hS.size, hS.gr, hS.b0, hS.b1, hS.row, hS.new, hS.out⟩ (fun _ hx => Option.some.inj hx)
    refine Reg.EachG.plain rfl (fun L u T X hL hz hS hk K hK => ?_) ?_
    · skip
      have g5 : T[5]? = some (.pointer (some ⟨w.heap.size + 1, 0, none⟩)) := hk.old 5 (by kernel_rfl) rfl
      have c1 := (Lib.cell_of_heap hS.b1 0).trans rfl
      have hK := hK _ X ⟨hS.ch, hS.size, hS.gr, hS.b0, hS.b1, hS.row, hS.new, hS.out⟩ (fun _ hx => Option.some.inj hx)
      clear hk hz hL
      go_simp
      exact hK
    refine Reg.EachG.plain rfl (fun L u T X hL hz hS hk K hK => ?_) ?_
    · skip
      have g14 : T[14]? = some (.pointer (some ⟨gb, 0, none⟩)) := hk.val 0 14 (by kernel_rfl) (by kernel_rfl) rfl
      have g18 : T[18]? = some (.agg csm.toArray) := hk.val 4 18 (by kernel_rfl) (by kernel_rfl) rfl
      have g19 : T[19]? = some (.int .i64 (nx : Nat)) := hk.val 5 19 (by kernel_rfl) (by kernel_rfl) rfl
      have d8 : L 8 = false := hz 8 (by kernel_rfl)
      have hg := hS.gr
      rw [hL, if_neg (by decide)] at hg
      have hC := HPM.out X hS.ch hg
      clear hk hz
      unfold PtQ at hC
      go_simp
      refine hC.mono ?_
      rintro x w' ⟨rfl, hg', hc'⟩
      refine hK _ w' ⟨hS.ch.trans hc', Nat.le_trans hS.size hc'.bel.size, (by rw [Reg.upd_same]; exact hg'), hc'.blk hS.b0 (by decide) (by decide), hc'.blk hS.b1 (by decide) (by decide), hc'.blk hS.row (by decide) (by decide), fun h7 h8 => ?_, fun h => (by rw [Reg.upd_ne _ _ (by decide), d8] at h; cases h)⟩ (fun _ hx => Option.some.inj hx)
      rw [Reg.upd_ne _ _ (by decide)] at h7 h8
      obtain ⟨b, e7, hb1, hb2⟩ := hS.new h7 h8
      exact ⟨b, by rw [Reg.upd_ne _ _ (by decide)]; exact e7, hb1, hc'.blk hb2 (by decide) (by decide)⟩
    refine Reg.EachG.plain rfl (fun L u T X hL hz hS hk K hK => ?_) ?_
    · skip
      have d8 : L 8 = false := hz 8 (by kernel_rfl)
      have hal : Below X.heap.size X (X.alloc (.cells #[.int .i64 0] 3)) := (Below.refl _ _).alloc (Nat.le_refl _) _
      have hK := hK (.pointer (some ⟨X.heap.size, 0, none⟩)) (X.alloc (.cells #[.int .i64 0] 3)) ⟨hS.ch.alloc hB _, by have := hS.size; simp; omega, by rw [Reg.upd_ne _ _ (by decide)]; exact hS.gr.below hal, blk_alloc hS.b0 _, blk_alloc hS.b1 _, blk_alloc hS.row _, fun _ _ => ⟨X.heap.size, by rw [Reg.upd_same], hS.size, alloc_last X _⟩, fun h => (by rw [Reg.upd_ne _ _ (by decide), d8] at h; cases h)⟩ (fun _ hx => by cases hx)
      clear hk hz hL d8 hS hal
      go_simp
      exact hK
    refine Reg.EachG.plain rfl (fun L u T X hL hz hS hk K hK => ?_) ?_
    · skip
      obtain ⟨g8, l8⟩ := hk.any 7 8 (by kernel_rfl) (by kernel_rfl)
      have g20 : T[20]? = some (.int .i64 (s1 : Nat)) := hk.val 6 20 (by kernel_rfl) (by kernel_rfl) rfl
      obtain ⟨b, e7, hb1, hb2⟩ := hS.new l8 hL
      have hbl := lt_blkB hb2
      have f0 : X.frozen? ⟨b, 0, none⟩ = false := row_freeN hb2 0
      have c8 := (Lib.cell_of_heap hb2 0).trans rfl
      rw [e7] at g8
      have hn0 : w.heap.size ≠ b := by omega
      have hn1 : w.heap.size + 1 ≠ b := by omega
      have hnk : kb ≠ b := by omega
      have hK := hK undef (X.setCell ⟨b, 0, none⟩ (.int .i64 (s1 : Nat))) ⟨hS.ch.setNew hB (by omega) _ _, by have := hS.size; simpa using this, by rw [Reg.upd_ne _ _ (by decide)]; exact hS.gr.setInt hb2 _ _, (Below.heap_setCell _ _ _ _ hn0).trans hS.b0, (Below.heap_setCell _ _ _ _ hn1).trans hS.b1, (Below.heap_setCell _ _ _ _ hnk).trans hS.row, fun _ h => (by rw [Reg.upd_same] at h; cases h), fun _ => ⟨b, by rw [Reg.upd_ne _ _ (by decide)]; exact e7, hb1, blk_set1i hb2⟩⟩ (fun _ hx => by cases hx)
      clear hk hz hL hS hb2
      go_simp
      exact hK
    exact Reg.EachG.nil
  case rsZ =>
    intro L u w1 hL hS hI
    have e0 : u 0 = .pointer (some ⟨gb, 0, none⟩) := hI 0 (by decide) _ rfl
    have e1 : u 1 = .slice (some ⟨kb, 0, none⟩) (m + 1) kc := hI 1 (by decide) _ rfl
    have e2 : u 2 = .int .i64 (m : Nat) := hI 2 (by decide) _ rfl
    have e3 : u 3 = .pointer (some ⟨kb, m * 9, none⟩) := hI 3 (by decide) _ rfl
    have e4 : u 4 = .agg csm.toArray := hI 4 (by decide) _ rfl
    have e5 : u 5 = .int .i64 (nx : Nat) := hI 5 (by decide) _ rfl
    have e6 : u 6 = .int .i64 (s1 : Nat) := hI 6 (by decide) _ rfl
    clear hI
    simp only [Reg.putAll, Act.put, List.setIfInBounds_toArray, List.set_cons_succ, List.set_cons_zero, Nat.zero_add, Nat.reduceAdd, e0, e1, e2, e3, e4, e5, e6]
    clear e0 e1 e2 e3 e4 e5 e6
    have d6 := hL 6 (by decide)
    have d8 := hL 8 (by decide)
    obtain ⟨x8, e7, hx8, hb8⟩ := hS.out d8
    have hgr := hS.gr
    rw [d6, if_pos rfl] at hgr
    rw [e7]
    have HG2 := Lib.hid hgr
    have HC2 := Lib.hid hS.ch
    have HX0 := Lib.hid hS.b0
    have HX1 := Lib.hid hS.b1
    have HX8 := Lib.hid hb8
    have HR2 := Lib.hid hS.row
    have hsz2 := hS.size
    generalize u 8 = y8 at *
    clear hS hgr hb8 d6 d8 hL e7 u L
    have hml : (m : Int) ≤ (m : Int) + 1 := by omega
    have hmk : (m : Int) ≤ (kc : Int) := by omega
    go_wp2_with fail
    refine (bw_any _ _ _ _).mono ?_
    rintro e w2 ⟨rfl, rfl⟩
    go_wp2_with fail
    obtain ⟨W0, hW0⟩ : ∃ W0, W0 = w1.alloc (.cells #[.slice (some ⟨kb, 0, none⟩) m kc] 27) := ⟨_, rfl⟩
    rw [← hW0]
    have hb : Below w1.heap.size w1 W0 := by rw [hW0]; exact (Below.refl _ _).alloc (Nat.le_refl _) _
    have hz0 : W0.heap.size = w1.heap.size + 1 := by rw [hW0]; simp
    have hb3 : W0.heap[w1.heap.size]? = some (.cells #[.slice (some ⟨kb, 0, none⟩) m kc] 27 (0, 0)) := by rw [hW0]; exact alloc_last w1 _
    have HBZ := Lib.hid hb
    have HCZ : Hid (ChG B w W0) := Lib.hid (HC2.out.trans (ChG.below hb (Nat.le_trans hB HC2.out.bel.size)))
    have hwz1 : w.heap.size + 2 ≤ w1.heap.size := by omega
    clear hW0 hb
    refine (wpIn_wide (n := 3)).1 ?_
    refine wpIn_rangeFunc_ownH rfl (by decide) (gf := 125) (lb := #[.pointer (some ⟨w1.heap.size, 0, none⟩)]) rfl trivial (enters_of Tryz.func125 (by kernel_rfl) rfl)
      (bw_stops Fence.wide 2 trivial rfl (by decide) w1.heap.size m kc (some ⟨kb, 0, none⟩) (fun x => (kidAt l x).cells (kvs x)) (by omega) W0 hb3 (fun k => Nd.cells_len _ _) (Or.inr ⟨kb, cur, rfl, blk_below HR2.out HBZ.out, fun k hk => HCL.out k (by have := HM.out; omega)⟩)) ChT.trans (fun W l o o' _ h ho _ => ChT.put W l o o' h ho) (Below.refl _ _) (fun _ => rfl)
      (fun pre W => ((GrAt B gb (altB l nx pre (g1, s1)).1 st W ∧ W.heap[w.heap.size]? = some (.cells #[.pointer (some ⟨gb, 0, none⟩)] 66 (0, 0)) ∧ W.heap[w.heap.size + 1]? = some (.cells #[.int .i64 (nx : Nat)] 3 (0, 0)) ∧ W.heap[x8]? = some (.cells #[.int .i64 ((altB l nx pre (g1, s1)).2 : Nat)] 3 (0, 0))) ∧ ChG B w W) ∧ w1.heap.size < W.heap.size)
      (fun _ _ _ => False) ?own (fun _ _ _ _ _ hs _ _ => hs) ⟨⟨⟨HG2.out.below HBZ.out, blk_below HX0.out HBZ.out, blk_below HX1.out HBZ.out, blk_below HX8.out HBZ.out⟩, HCZ.out⟩, by omega⟩
      (fun x a' W => ∃ Bx, W.heap[Bx]? = some (.cells ((kidAt l x).cells (kvs x)).toArray 29 (0, 0)) ∧ w1.heap.size < Bx ∧ a' = { tmps := #[.pointer (some ⟨gb, 0, none⟩), .slice (some ⟨kb, 0, none⟩) (m + 1) kc, .int .i64 (nx : Nat), .pointer (some ⟨w.heap.size, 0, none⟩), undef, .pointer (some ⟨w.heap.size + 1, 0, none⟩), .int .i64 0, .int .i64 (m : Nat), .pointer (some ⟨x8, 0, none⟩), undef, .pointer (some ⟨Bx, 0, none⟩), .slice (some ⟨kb, 0, none⟩) (m + 1) kc, .int .i64 ((m : Int) + 1), .int .i64 (m : Nat), .pointer (some ⟨gb, 0, none⟩), .slice (some ⟨kb, 0, none⟩) (m + 1) kc, .int .i64 (m : Nat), .pointer (some ⟨kb, m * 9, none⟩), .agg csm.toArray, .int .i64 (nx : Nat), .int .i64 (s1 : Nat), .slice (some ⟨kb, 0, none⟩) (m + 1) kc, .int .i64 (m : Nat), .slice (some ⟨kb, 0, none⟩) m kc, .func (.func 125) #[] #[.pointer (some ⟨w1.heap.size, 0, none⟩)], .int .i64 (x : Nat), .agg ((kidAt l x).cells (kvs x)).toArray, undef, undef, undef, undef, undef, undef, undef, undef, undef], defers := [] })
      (fun x a' s A A' row hs hg hr => by obtain ⟨Bx, h1, h2, h3⟩ := hs; exact ⟨Bx, turn_blk h1 hg hr, h2, h3⟩) ?assign ?body ?done ?stop
    case own =>
      intro s A A' row hs hg hr
      exact ⟨⟨⟨hs.1.1.1.turn hg hr, turn_blk hs.1.1.2.1 hg hr, turn_blk hs.1.1.2.2.1 hg hr, turn_blk hs.1.1.2.2.2 hg hr⟩, hs.1.2.turn hB (by omega) hg hr⟩, Nat.lt_of_lt_of_le hs.2 hg.size⟩
    case assign =>
      intro l' pre x W K hi hK
      obtain ⟨hi, hwl⟩ := hi
      obtain ⟨xa, xm, xc, hxv⟩ := HKS.out x
      obtain ⟨Wq, hWq⟩ : ∃ Wq, Wq = W.alloc (.cells zero9 29) := ⟨_, rfl⟩
      have hk1 : Wq.heap[W.heap.size]? = some (.cells zero9 29 (0, 0)) := by rw [hWq]; exact alloc_last W _
      have hlt1 : W.heap.size < Wq.heap.size := lt_blkB hk1
      have hbel : Below W.heap.size W (Wq.setRow W.heap.size ((kidAt l x).cells (kvs x)).toArray) := by rw [hWq]; exact below_setRow ((Below.refl _ _).alloc (Nat.le_refl _) _) (Nat.le_refl _) _
      have HK1 := Lib.hid hk1
      have HK := Lib.hid (hK _ (Wq.setRow W.heap.size ((kidAt l x).cells (kvs x)).toArray) ((keeps_below hbel).from _) (ChG.below hbel (Nat.le_refl _)).t ⟨⟨⟨hi.1.1.below hbel, blk_below hi.1.2.1 hbel, blk_below hi.1.2.2.1 hbel, blk_below hi.1.2.2.2 hbel⟩, hi.2.trans (ChG.below hbel (Nat.le_trans hB hi.2.bel.size))⟩, Nat.lt_of_lt_of_le hwl hbel.size⟩ ⟨W.heap.size, setRow_selfR hk1 _, hwl, rfl⟩)
      have HW1 := Lib.hid hWq
      have HN1 : Hid (((kidAt l x).cells (kvs x)).all (·.oneCell') = true) := Lib.hid (nd_one9 _ _ ⟨_, _, _, hxv⟩)
      have HSP : Hid ((spl zero9.toList 0 ((kidAt l x).cells (kvs x))).toArray = ((kidAt l x).cells (kvs x)).toArray) := Lib.hid (by rw [spl_all _ _ (by rw [Nd.cells_len]; rfl)])
      have HL9' : Hid (((kidAt l x).cells (kvs x)).length = 9) := Lib.hid (Nd.cells_len _ _)
      clear hk1 hbel hK hWq hxv hi hwl
      generalize (kidAt l x).cells (kvs x) = cs at *
      unfold zero9 at HW1
      gi_wp2_with (first | (rw [← HW1.out]; refine wpListIn_store_partC rfl 29 _ _ rfl rfl W.heap.size 0 cs rfl rfl 29 zero9 HK1.out (by rw [HL9'.out]; exact nre_size) (by rw [HL9'.out]; decide) HN1.out cs.toArray HSP.out ?_) | fail)
      exact HK.out
    case body =>
      rintro l' pre x a' W hl' ⟨lr, hlr⟩ ⟨⟨⟨hg, hx0, hx1, hx8'⟩, hc⟩, hws⟩ ⟨Bx, hBx, hBxl, rfl⟩ hplt
      have hl0' : 0 < l.length := by have := HM.out; omega
      have hll' : l.length = m + 1 := HM.out
      have hm1 : pre.length * ((fo l).W + 1) ≤ 1100 * 4001 := Nat.mul_le_mul (by omega) (by omega)
      have hrl := altB_lenA HOK.out hl0' nx (g1, s1) pre
      have hrg := altB_goodA HOK.out hl0' nx (g1, s1) hgl pre
      have hnk : (kidAt l x).nn ≤ (fo l).nn := by
        unfold kidAt
        rw [List.getElem?_eq_getElem (by omega)]
        exact nn_at l _ _
      have hlk : (kidAt l x).Lt := by
        unfold kidAt
        rw [List.getElem?_eq_getElem (by omega)]
        exact lt_at l HLT.out _ _
      have hmul : (kidAt l x).nn * 8000000 ≤ (fo l).nn * 8000000 := Nat.mul_le_mul_right _ hnk
      obtain ⟨ga, hga⟩ : ∃ ga, ga = (altB l nx pre (g1, s1)).1 := ⟨_, rfl⟩
      obtain ⟨sa, hsa⟩ : ∃ sa, sa = (altB l nx pre (g1, s1)).2 := ⟨_, rfl⟩
      have hga2 : ga.length ≤ g.length + 4000 + 1100 * 4001 := by
        rw [hga]
        have h0 : (g1, s1).1.length = g1.length := rfl
        rw [h0] at hrl
        omega
      have hgb : ga.length + (kidAt l x).nn * 8000000 ≤ 1099511627776 := by
        refine Nat.le_trans (Nat.add_le_add hga2 hmul) (Nat.le_trans ?_ hlen)
        rw [Nat.succ_mul]
        omega
      have hnN : (kidAt l x).nn ≤ N := Nat.le_trans hnk hN
      rw [← hga] at hrg hg
      have HC : Hid (∀ X, ChG B w X → GrAt B gb ga st X → Calls Tryz.prog 70 #[.pointer (some ⟨gb, 0, none⟩), (kidAt l x).v (kvs x), .int .i64 (nx : Nat)] X (PtQ B gb st ((kidAt l x).B ga nx) X)) := Lib.hid (fun X hX hg => HIH.out B gb st (kidAt l x) (kvs x) ga nx X hnN (kidAt_ok HOK.out hl0' x) hlk hgb hrg hg (Nat.le_trans hB hX.bel.size) ((HKI.out hl0' x).kept fun k hk _ _ => hX.bel.block k hk))
      have HSN : Hid (altB l nx (pre ++ [x]) (g1, s1) = (((kidAt l x).B ga nx).1 ++ [.fork ((kidAt l x).B ga nx).2 sa], ((kidAt l x).B ga nx).1.length)) := Lib.hid (by rw [altB_snoc, ← hga, ← hsa])
      have hwk := kidAt_w hl0' x (l := l)
      have hqlen := Nd.lenB _ (kidAt_ok HOK.out hl0' x) ga nx
      obtain ⟨gq, hgq⟩ : ∃ gq, gq = ((kidAt l x).B ga nx).1 := ⟨_, rfl⟩
      obtain ⟨sq, hsq⟩ : ∃ sq, sq = ((kidAt l x).B ga nx).2 := ⟨_, rfl⟩
      have hgqs : (kidAt l x).B ga nx = (gq, sq) := by rw [hgq, hsq]
      rw [hgqs] at HC HSN hqlen
      have hqb : gq.length ≤ 1099511627776 := by
        have h0 : (gq, sq).1.length = gq.length := rfl
        rw [h0] at hqlen
        rw [Nat.succ_mul] at hlen
        omega
      have HPU : Hid (∀ X, GrAt B gb gq st X → B ≤ X.heap.size → Calls Tryz.prog 90 #[.pointer (some ⟨gb, 0, none⟩), .agg #[.int .i64 4, .int .u64 0, .int .u64 0, .int .u64 0, .int .u64 0, .int .i64 (sq : Nat), .int .i64 (sa : Nat)]] X fun x w' => x = .returned (.int .i64 (gq.length : Nat)) ∧ GrAt B gb (gq ++ [.fork sq sa]) st w' ∧ ChG B X w') := Lib.hid (fun X h1 h2 => by
        have := put_any B gb gq st (.fork sq sa) X h1 h2 hqb
        rw [fork_cells] at this
        exact this)
      have HL9' : Hid (((kidAt l x).cells (kvs x)).length = 9) := Lib.hid (Nd.cells_len _ _)
      unfold Nd.v at HC
      rw [← hsa] at hx8'
      have HG0 : Hid (GrAt B gb ga st W.drew) := Lib.hid (hg.below (Below.refl _ _).drew)
      have HC0 : Hid (ChG B w W.drew) := Lib.hid (hc.trans (ChG.below (Below.refl _ _).drew (Nat.le_trans hB hc.bel.size)))
      have HX0' := Lib.hid hx0
      have HX1' := Lib.hid hx1
      have HX8' := Lib.hid hx8'
      have HBX := Lib.hid hBx
      have hxb : x8 < w1.heap.size := lt_blkB HX8.out
      clear hg hx0 hx1 hx8' hc hBx hlr hrl hrg hnk hlk hmul hm1 hga2 hgb hnN hgq hsq hgqs hqlen hga hsa hwk hqb
      generalize (kidAt l x).cells (kvs x) = cs at *
      refine wpIn_block ?_
      refine Reg.wpIn_region_sto l' _ (fun L u X => EiB B gb st w.heap.size (w.heap.size + 1) x8 Bx w W cs.toArray ga gq nx sa sq (.fork sq sa) (L 4) (L 7) (L 8) X) (fun j => ([some (.pointer (some ⟨gb, 0, none⟩)), some (.pointer (some ⟨gb, 0, none⟩)), some (.agg cs.toArray), some (.int .i64 (nx : Nat)), some (.int .i64 (sq : Nat)), some (.int .i64 (sa : Nat)), some (.agg #[.int .i64 4, .int .u64 0, .int .u64 0, .int .u64 0, .int .u64 0, .int .i64 (sq : Nat), .int .i64 (sa : Nat)]), some (.int .i64 (gq.length : Nat)), none] : List (Option Value)).getD j none) (by kernel_rfl) (by kernel_rfl) (by kernel_rfl) (by kernel_rfl) (by kernel_rfl) (fun _ _ h => h) ?rs0 ?rsE ?rsZ
      case rs0 => exact ⟨HC0.out, KeepsOthers.drew W, ChT.refl W, HG0.out, HX0'.out, HX1'.out, HX8'.out, HBX.out⟩
      case rsE =>
        refine Reg.EachG.plain rfl (fun L u T X hL hz hS hk K hK => ?_) ?_
        · skip
          have g3 : T[3]? = some (.pointer (some ⟨w.heap.size, 0, none⟩)) := hk.old 3 (by kernel_rfl) rfl
          have c0 := (Lib.cell_of_heap hS.b0 0).trans rfl
          have hK := hK _ X ⟨hS.ch, hS.kp, hS.ct, hS.gr, hS.b0, hS.b1, hS.b8, hS.kid⟩ (fun _ hx => Option.some.inj hx)
          clear hk hz hL
          go_simp
          exact hK
        refine Reg.EachG.plain rfl (fun L u T X hL hz hS hk K hK => ?_) ?_
        · skip
          have g3 : T[3]? = some (.pointer (some ⟨w.heap.size, 0, none⟩)) := hk.old 3 (by kernel_rfl) rfl
          have c0 := (Lib.cell_of_heap hS.b0 0).trans rfl
          have hK := hK _ X ⟨hS.ch, hS.kp, hS.ct, hS.gr, hS.b0, hS.b1, hS.b8, hS.kid⟩ (fun _ hx => Option.some.inj hx)
          clear hk hz hL
          go_simp
          exact hK
        refine Reg.EachG.plain rfl (fun L u T X hL hz hS hk K hK => ?_) ?_
        · skip
          have g10 : T[10]? = some (.pointer (some ⟨Bx, 0, none⟩)) := hk.old 10 (by kernel_rfl) rfl
          refine wp_load_part 29 _ rfl Bx 0 (by simp [Act.eval, g10]) _ cs.toArray cs (0, 0) _ hS.kid (fun j u hu => by rw [Nat.zero_add]; simpa using hu) Tryz.underlying29 rfl (by rw [HL9'.out]; exact nre_size) ?_
          exact hK _ X ⟨hS.ch, hS.kp, hS.ct, hS.gr, hS.b0, hS.b1, hS.b8, hS.kid⟩ (fun _ hx => Option.some.inj hx)
        refine Reg.EachG.plain rfl (fun L u T X hL hz hS hk K hK => ?_) ?_
        · skip
          have g5 : T[5]? = some (.pointer (some ⟨w.heap.size + 1, 0, none⟩)) := hk.old 5 (by kernel_rfl) rfl
          have c1 := (Lib.cell_of_heap hS.b1 0).trans rfl
          have hK := hK _ X ⟨hS.ch, hS.kp, hS.ct, hS.gr, hS.b0, hS.b1, hS.b8, hS.kid⟩ (fun _ hx => Option.some.inj hx)
          clear hk hz hL
          go_simp
          exact hK
        refine Reg.EachG.plain rfl (fun L u T X hL hz hS hk K hK => ?_) ?_
        · skip
          have g28 : T[28]? = some (.pointer (some ⟨gb, 0, none⟩)) := hk.val 1 28 (by kernel_rfl) (by kernel_rfl) rfl
          have g29 : T[29]? = some (.agg cs.toArray) := hk.val 2 29 (by kernel_rfl) (by kernel_rfl) rfl
          have g30 : T[30]? = some (.int .i64 (nx : Nat)) := hk.val 3 30 (by kernel_rfl) (by kernel_rfl) rfl
          have d7 : L 7 = false := hz 7 (by kernel_rfl)
          have d8 : L 8 = false := hz 8 (by kernel_rfl)
          have hg := hS.gr
          rw [d7, hL, if_neg (by decide), if_neg (by decide)] at hg
          have hC := HC.out X hS.ch hg
          clear hk hz
          unfold PtQ at hC
          go_simp
          refine hC.mono ?_
          rintro x w' ⟨rfl, hg', hc'⟩
          refine hK _ w' ⟨hS.ch.trans hc', hS.kp.trans hc'.kp, hS.ct.trans hc'.t, (by rw [Reg.upd_same, Reg.upd_ne _ _ (by decide), d7, if_neg (by decide), if_pos rfl]; exact hg'), hc'.blk hS.b0 (by decide) (by decide), hc'.blk hS.b1 (by decide) (by decide), (by rw [Reg.upd_ne _ _ (by decide)]; exact hc'.blk hS.b8 (by decide) (by decide)), hc'.blk hS.kid (by decide) (by decide)⟩ (fun _ hx => Option.some.inj hx)
        refine Reg.EachG.plain rfl (fun L u T X hL hz hS hk K hK => ?_) ?_
        · skip
          have g8 : T[8]? = some (.pointer (some ⟨x8, 0, none⟩)) := hk.old 8 (by kernel_rfl) rfl
          have d8 : L 8 = false := hz 8 (by kernel_rfl)
          have hb8 := hS.b8
          rw [d8, if_neg (by decide)] at hb8
          have c8 := (Lib.cell_of_heap hb8 0).trans rfl
          have hK := hK _ X ⟨hS.ch, hS.kp, hS.ct, hS.gr, hS.b0, hS.b1, hS.b8, hS.kid⟩ (fun _ hx => Option.some.inj hx)
          clear hk hz hL d8 hb8
          go_simp
          exact hK
        refine Reg.EachG.plain rfl (fun L u T X hL hz hS hk K hK => ?_) ?_
        · skip
          have g31 : T[31]? = some (.int .i64 (sq : Nat)) := hk.val 4 31 (by kernel_rfl) (by kernel_rfl) rfl
          have g32 : T[32]? = some (.int .i64 (sa : Nat)) := hk.val 5 32 (by kernel_rfl) (by kernel_rfl) rfl
          have hK := hK _ X ⟨hS.ch, hS.kp, hS.ct, hS.gr, hS.b0, hS.b1, hS.b8, hS.kid⟩ (fun _ hx => Option.some.inj hx)
          clear hk hz hL
          go_simp
          exact hK
        refine Reg.EachG.plain rfl (fun L u T X hL hz hS hk K hK => ?_) ?_
        · skip
          have g27 : T[27]? = some (.pointer (some ⟨gb, 0, none⟩)) := hk.val 0 27 (by kernel_rfl) (by kernel_rfl) rfl
          have g33 : T[33]? = some (.agg #[.int .i64 4, .int .u64 0, .int .u64 0, .int .u64 0, .int .u64 0, .int .i64 (sq : Nat), .int .i64 (sa : Nat)]) := hk.val 6 33 (by kernel_rfl) (by kernel_rfl) rfl
          have d8 : L 8 = false := hz 8 (by kernel_rfl)
          obtain ⟨_, l31⟩ := hk.any 4 31 (by kernel_rfl) (by kernel_rfl)
          have hg := hS.gr
          rw [hL, l31, if_neg (by decide), if_pos rfl] at hg
          have hC := HPU.out X hg (Nat.le_trans hB hS.ch.bel.size)
          clear hk hz
          go_simp
          refine hC.mono ?_
          rintro x w' ⟨rfl, hg', hc'⟩
          refine hK _ w' ⟨hS.ch.trans hc', hS.kp.trans hc'.kp, hS.ct.trans hc'.t, (by rw [Reg.upd_same, if_pos rfl]; exact hg'), hc'.blk hS.b0 (by decide) (by decide), hc'.blk hS.b1 (by decide) (by decide), (by rw [Reg.upd_ne _ _ (by decide)]; exact hc'.blk hS.b8 (by decide) (by decide)), hc'.blk hS.kid (by decide) (by decide)⟩ (fun _ hx => Option.some.inj hx)
        refine Reg.EachG.plain rfl (fun L u T X hL hz hS hk K hK => ?_) ?_
        · skip
          have g8 : T[8]? = some (.pointer (some ⟨x8, 0, none⟩)) := hk.old 8 (by kernel_rfl) rfl
          have g34 : T[34]? = some (.int .i64 (gq.length : Nat)) := hk.val 7 34 (by kernel_rfl) (by kernel_rfl) rfl
          have hb8 := hS.b8
          rw [hL, if_neg (by decide)] at hb8
          have hbl := lt_blkB hb8
          have f0 : X.frozen? ⟨x8, 0, none⟩ = false := row_freeN hb8 0
          have c8 := (Lib.cell_of_heap hb8 0).trans rfl
          have hn0 : w.heap.size ≠ x8 := by omega
          have hn1 : w.heap.size + 1 ≠ x8 := by omega
          have hnk : Bx ≠ x8 := by omega
          have hK := hK undef (X.setCell ⟨x8, 0, none⟩ (.int .i64 (gq.length : Nat))) ⟨hS.ch.setNew hB (by omega) _ _, hS.kp.trans (KeepsOthers.setCell _ _ _), hS.ct.trans (ChT.setInt hb8 _ _), (by rw [Reg.upd_ne _ _ (by decide), Reg.upd_ne _ _ (by decide)]; exact hS.gr.setInt hb8 _ _), (Below.heap_setCell _ _ _ _ hn0).trans hS.b0, (Below.heap_setCell _ _ _ _ hn1).trans hS.b1, (by rw [Reg.upd_same, if_pos rfl]; exact blk_set1i hb8), (Below.heap_setCell _ _ _ _ hnk).trans hS.kid⟩ (fun _ hx => by cases hx)
          clear hk hz hL hS hb8
          go_simp
          exact hK
        exact Reg.EachG.nil
      case rsZ =>
        intro L u w9 hL hS hI
        have e0 : u 0 = .pointer (some ⟨gb, 0, none⟩) := hI 0 (by decide) _ rfl
        have e1 : u 1 = .pointer (some ⟨gb, 0, none⟩) := hI 1 (by decide) _ rfl
        have e2 : u 2 = .agg cs.toArray := hI 2 (by decide) _ rfl
        have e3 : u 3 = .int .i64 (nx : Nat) := hI 3 (by decide) _ rfl
        have e4 : u 4 = .int .i64 (sq : Nat) := hI 4 (by decide) _ rfl
        have e5 : u 5 = .int .i64 (sa : Nat) := hI 5 (by decide) _ rfl
        have e6 : u 6 = .agg #[.int .i64 4, .int .u64 0, .int .u64 0, .int .u64 0, .int .u64 0, .int .i64 (sq : Nat), .int .i64 (sa : Nat)] := hI 6 (by decide) _ rfl
        have e7 : u 7 = .int .i64 (gq.length : Nat) := hI 7 (by decide) _ rfl
        clear hI
        simp only [Reg.putAll, Act.put, List.setIfInBounds_toArray, List.set_cons_succ, List.set_cons_zero, Nat.zero_add, Nat.reduceAdd, e0, e1, e2, e3, e4, e5, e6, e7]
        clear e0 e1 e2 e3 e4 e5 e6 e7
        have d7 := hL 7 (by decide)
        have d8 := hL 8 (by decide)
        have hgr := hS.gr
        rw [d7, if_pos rfl] at hgr
        have hb8 := hS.b8
        rw [d8, if_pos rfl] at hb8
        show KeepsFrom _ _ _ ∧ ChT _ _ ∧ ((GrAt B gb (altB l nx (pre ++ [x]) (g1, s1)).1 st _ ∧ _ ∧ _ ∧ _ = some (Obj.cells #[.int .i64 ((altB l nx (pre ++ [x]) (g1, s1)).2 : Nat)] 3 (0, 0))) ∧ _) ∧ _
        rw [HSN.out]
        exact ⟨hS.kp.from _, hS.ct, ⟨⟨hgr, hS.b0, hS.b1, hb8⟩, hS.ch⟩, Nat.lt_of_lt_of_le hws hS.kp.size⟩
    case done =>
      rintro D ys W hD rfl ⟨⟨⟨hg, hx0, hx1, hx8'⟩, hc⟩, hws⟩ hK
      have hres := HRES.out
      rw [HGS.out] at hres
      subst hres
      have c8 : W.cell? ⟨x8, 0, none⟩ = some (.int .i64 ((altB l nx (downL m m) (g1, s1)).2 : Nat)) := (Lib.cell_of_heap hx8' 0).trans rfl
      have hxl := lt_blkB hx8'
      have HGX := Lib.hid hg
      have HCX := Lib.hid hc
      have HKK := Lib.hid hK
      clear hg hx0 hx1 hx8' hc hK
      go_wp2
      refine ⟨by simp, .inl ⟨_, _, rfl, run_takeDeferred HKK.out, ?_⟩⟩
      have hgr := grownBy_putObj' W D (.deferred none)
      have hr : ∀ r, some D = some r → W0.heap.size ≤ r ∧ ∃ o : Obj, W.heap[r]? = some o ∧ o.isCells = false := fun r e => by cases e; exact ⟨hD, _, HKK.out, rfl⟩
      exact ⟨_, results_tmp rfl _ _ _, rfl, HGX.out.turn hgr hr, HCX.out.turn hB (by omega) hgr hr⟩
    case stop =>
      rintro D c pre W _ _ h _
      exact h.elim
end Go.Proofs.YtcceiblmdjbhjaaGreatDoor
