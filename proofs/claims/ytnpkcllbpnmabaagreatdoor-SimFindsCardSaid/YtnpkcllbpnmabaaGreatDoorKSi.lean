import Derived.Test.YtnpkcllbpnmabaaGreatDoorKRs
namespace Go.Proofs.YtnpkcllbpnmabaaGreatDoor
set_option maxRecDepth 100000
open Go.RowKit
set_option maxHeartbeats 16000000 in
theorem sgn_gc (cf : ByteArray → (Nat → Bool) × Bool) (e : Nat → Addr) (bv : Value) (l : List Int) (hcf : BkC cf l) (hl : Byt l) (_h47 : l.length ≤ 1048576) (ext : Bool) (x0 x1 x2 cb k : Nat) (w : World) (he : Es w w.heap.size e) (hs : Sl w bv l) (hc : CapR w x0 x1 x2 cb ext bv) (hlo : 21 < cb) (hbc : ∀ x o n cap, bv = .slice (some ⟨x, o, none⟩) n cap → x ≠ cb) (h : Cur w cb (ofBys l) k) (s : Sg) (hsc : SgC cf l ext k s) (hxr : roleC (sgT l k) ext = 123) :
  Calls Tryz.prog 50 #[.pointer (some ⟨x0, 0, none⟩), .pointer (some ⟨x1, 0, none⟩), .pointer (some ⟨x2, 0, none⟩)] w (SgPost e l ext cb k s w) := by
 have hk := h.2.1
 rw [ofBys_size] at hk
 have hcw := h.facts.2.2.2.2
 obtain ⟨W, hW⟩ : ∃ W, W = w.alloc (.cells zero15 63) := ⟨_, rfl⟩
 have HB : Hid (Below w.heap.size w W) := Lib.hid (by rw [hW]; exact (Below.refl _ _).alloc (Nat.le_refl _) _)
 have HRK : Hid (W.heap[w.heap.size]? = some (.cells zero15 63 (0, 0))) := Lib.hid (by rw [hW]; exact alloc_last w _)
 have hwz : W.heap.size = w.heap.size + 1 := by rw [hW]; simp
 have HM0 : Hid (Mv cb (ofBys l) k w W) := Lib.hid (Mv.below h HB.out)
 have HM : Hid (Mv cb (ofBys l) k W W) := Lib.hid (Mv.refl HM0.out.cur)
 have HCP : Hid (CapR W x0 x1 x2 cb ext bv) := Lib.hid (hc.mv HM0.out)
 have hcb : cb < W.heap.size := HM0.out.cur.facts.2.2.2.2
 have HBY := Lib.hid hl
 have HWE := Lib.hid hW
 have HES := Lib.hid he
 have HSL := Lib.hid hs
 have HCF := Lib.hid hcf
 have HMX : Hid (∀ X j, Mv cb (ofBys l) j w X → (Es X X.heap.size e ∧ Sl X bv l)) := Lib.hid (fun X j hm => ⟨(by have hb := hm.1; exact ⟨fun i h1 h2 => by rw [World.cell?_of_block (w := w) (hm.2.2 _ (World.block_lt_of_cell? _ _ (he.var i h1 h2)) (by simp; omega)), he.var i h1 h2], Nat.lt_of_lt_of_le he.low hb.size, Nat.le_refl _⟩), hs.mv hm (hbc)⟩)
 have HSC := Lib.hid hsc
 have HXR := Lib.hid hxr
 obtain ⟨rs, hrs⟩ : ∃ rs, rs = ofBys (roleS (roleC (sgT l k) ext)) := ⟨_, rfl⟩
 have HRO : Hid (∀ X, Calls Tryz.prog 53 #[.string (ofBys (sgT l k)), .bool ext] X fun x w' => x = .returned (.string rs) ∧ w' = X) := Lib.hid (fun X => by
  rw [hrs]
  exact role_any (sgT l k) (sgT_byt hl k) ext X)
 unfold zero15 at HWE
 clear he hs hc h hW hl hcf hsc hxr
 go_enter Tryz.func50, Tryz.ntmps50
 go_wp2_with fail
 rw [← HWE.out]
 refine Reg.wp_region_sto (fun L u X => Sg1 W cb l k (L 3) (L 5) (L 6) (u 5) X) (fun j => ([some (.pointer (some ⟨cb, 0, none⟩)), some (.int .i64 k), some (.pointer (some ⟨cb, 0, none⟩)), some (.string (ofBys (sgT l k))), some (.agg (sgB k (ofBys (sgT l k)))), none, none] : List (Option Value)).getD j none) (by kernel_rfl) (by kernel_rfl) (by kernel_rfl) (by kernel_rfl) ?rs0 ?rsE ?rsZ
 case rs0 => exact ⟨by rw [if_neg (by decide)]; exact mv_drew HM.out, fun h => (by cases h), fun h => (by cases h)⟩
 case rsE =>
  refine Reg.EachG.plain rfl (fun L u T X hL hz hS hk K hK => ?_) ?_
  ·skip
   have g0 := hk.old 0 (by kernel_rfl) rfl
   have cc := (HCP.out.mv hS.cur).cells.1
   have hK := hK _ X ⟨hS.cur, hS.new, hS.done⟩ (fun _ hx => Option.some.inj hx)
   clear hk hz hL
   go_simp
   exact hK
  refine Reg.EachG.plain rfl (fun L u T X hL hz hS hk K hK => ?_) ?_
  ·skip
   have g6 := hk.val 0 6 (by kernel_rfl) (by kernel_rfl) rfl
   have d3 : L 3 = false := hz 3 (by kernel_rfl)
   have hcu := hS.cur
   rw [d3, if_neg (by decide)] at hcu
   have hK := hK (.int .i64 k) X ⟨hS.cur, hS.new, hS.done⟩ (fun _ hx => Option.some.inj hx)
   clear hk hz hL
   go_simp
   refine (pos_any cb k (ofBys l) _ hcu.cur).mono ?_
   rintro x w1 ⟨rfl, rfl⟩
   exact hK
  refine Reg.EachG.plain rfl (fun L u T X hL hz hS hk K hK => ?_) ?_
  ·skip
   have g0 := hk.old 0 (by kernel_rfl) rfl
   have cc := (HCP.out.mv hS.cur).cells.1
   have hK := hK _ X ⟨hS.cur, hS.new, hS.done⟩ (fun _ hx => Option.some.inj hx)
   clear hk hz hL
   go_simp
   exact hK
  refine Reg.EachG.plain rfl (fun L u T X hL hz hS hk K hK => ?_) ?_
  ·skip
   have g8 := hk.val 2 8 (by kernel_rfl) (by kernel_rfl) rfl
   have d6 : L 6 = false := hz 6 (by kernel_rfl)
   have hcu := hS.cur
   rw [hL, if_neg (by decide)] at hcu
   clear hk hz
   go_simp
   refine (nextText_any cb k l HBY.out _ hcu.cur).mono ?_
   rintro x w1 ⟨rfl, hm⟩
   refine hK _ w1 ⟨?_, fun h5 _ => ?_, fun h => (by rw [Reg.upd_ne _ _ (by decide), d6] at h; cases h)⟩ (fun _ hx => Option.some.inj hx)
   ·rw [Reg.upd_same, if_pos rfl]; exact hcu.trans hm
   ·rw [Reg.upd_ne _ _ (by decide)] at h5
    obtain ⟨b, e5, hb1, hb2⟩ := hS.new h5 d6
    exact ⟨b, by rw [Reg.upd_ne _ _ (by decide)]; exact e5, hb1, blk_mv hb2 hm (by have := hcb; omega)⟩
  refine Reg.EachG.plain rfl (fun L u T X hL hz hS hk K hK => ?_) ?_
  ·skip
   have g7 := hk.val 1 7 (by kernel_rfl) (by kernel_rfl) rfl
   have g9 := hk.val 3 9 (by kernel_rfl) (by kernel_rfl) rfl
   have hbu := sg_built k (ofBys (sgT l k))
   refine wp_build _ _ rfl ?_ ?_
   ·simp [Act.eval, g7, g9, hbu]
   have hK := hK (.agg (sgB k (ofBys (sgT l k)))) X ⟨hS.cur, hS.new, hS.done⟩ (fun _ hx => Option.some.inj hx)
   simp [Act.eval, g7, g9, hbu]
   exact hK
  refine Reg.EachG.plain rfl (fun L u T X hL hz hS hk K hK => ?_) ?_
  ·skip
   have d6 : L 6 = false := hz 6 (by kernel_rfl)
   have hK := hK (.pointer (some ⟨X.heap.size, 0, none⟩)) (X.alloc (.cells zero15 63)) ⟨by rw [Reg.upd_ne _ _ (by decide)]; exact hS.cur.alloc _, fun _ _ => ⟨X.heap.size, by rw [Reg.upd_same], hS.cur.1.size, alloc_last X _⟩, fun h => (by rw [Reg.upd_ne _ _ (by decide), d6] at h; cases h)⟩ (fun _ hx => by cases hx)
   clear hk hz hL d6 hS
   unfold zero15 at hK
   go_simp
   exact hK
  refine Reg.EachG.plain rfl (fun L u T X hL hz hS hk K hK => ?_) ?_
  ·skip
   obtain ⟨g4, l4⟩ := hk.any 5 4 (by kernel_rfl) (by kernel_rfl)
   have g10 := hk.val 4 10 (by kernel_rfl) (by kernel_rfl) rfl
   obtain ⟨b, e5, hb1, hb2⟩ := hS.new l4 hL
   rw [e5] at g4
   refine wp_store_row 63 _ _ rfl b (sgB k (ofBys (sgT l k))) (by simp [Act.eval, g4]) (by simp [Act.eval, g10]) _ zero15 hb2 sg_size rfl (by simp [sgB, Value.oneCell']) ?_
   exact hK undef _ ⟨by rw [Reg.upd_ne _ _ (by decide)]; exact mv_setRow hS.cur hb1 hcb _, fun _ h => (by rw [Reg.upd_same] at h; cases h), fun _ => ⟨b, by rw [Reg.upd_ne _ _ (by decide)]; exact e5, hb1, setRow_selfR hb2 _⟩⟩ (fun _ hx => by cases hx)
  exact Reg.EachG.nil
 case rsZ =>
  intro L u w1 hL hS hI
  have e0 := hI 0 (by decide) _ rfl
  have e1 := hI 1 (by decide) _ rfl
  have e2 := hI 2 (by decide) _ rfl
  have e3 := hI 3 (by decide) _ rfl
  have e4 := hI 4 (by decide) _ rfl
  clear hI
  simp only [Reg.putAll, Act.put, List.setIfInBounds_toArray, List.set_cons_succ, List.set_cons_zero, Nat.zero_add, Nat.reduceAdd, e0, e1, e2, e3, e4]
  clear e0 e1 e2 e3 e4
  have d3 := hL 3 (by decide)
  have d6 := hL 6 (by decide)
  have hcu := hS.cur
  rw [d3, if_pos rfl] at hcu
  obtain ⟨b, e5, hb1, hb2⟩ := hS.done d6
  rw [e5]
  have HT : Hid (SgT cb l (k + (sgT l k).length) b w.heap.size (sgB k (ofBys (sgT l k))) w w1) := Lib.hid ⟨HM0.out.trans hcu, by omega, hb2, rfl, blk_mv HRK.out hcu (by omega)⟩
  have HC1 := Lib.hid (HCP.out.mv hcu)
  have hwb : w.heap.size < b := by omega
  unfold sgB at HT
  clear hS d3 d6 hL hcu hb2 e5 u L
  obtain ⟨cc0, cc1, cc2⟩ := HC1.out.cells
  have ct : w1.cell? ⟨b, 2, none⟩ = some (.string (ofBys (sgT l k))) := (Lib.cell_of_heap HT.out.bk 2).trans rfl
  go_wp2_with fail
  refine (HRO.out _).mono ?_
  rintro x w2 ⟨rfl, rfl⟩
  cases HSC.out with
  | stop hr =>
   exact absurd HXR.out (by rw [hr]; decide)
  | beg hr =>
   exact absurd HXR.out (by rw [hr]; decide)
  | fin hr =>
   exact absurd HXR.out (by rw [hr]; decide)
  | star hr =>
   exact absurd HXR.out (by rw [hr]; decide)
  | opt hr =>
   exact absurd HXR.out (by rw [hr]; decide)
  | opn hr =>
   exact absurd HXR.out (by rw [hr]; decide)
  | shut hr =>
   exact absurd HXR.out (by rw [hr]; decide)
  | bar hr =>
   exact absurd HXR.out (by rw [hr]; decide)
  | plus hr =>
   exact absurd HXR.out (by rw [hr]; decide)
  | byt c hr hlit =>
   exact absurd HXR.out (by rw [hr]; decide)
  | esc c hr hlit =>
   exact absurd HXR.out (by rw [hr]; decide)
  | any1 hr =>
   exact absurd HXR.out (by rw [hr]; decide)
  | brk p nx hr hbr =>
   exact absurd HXR.out (by rw [hr]; decide)
  | brb c pos hr hbr =>
   exact absurd HXR.out (by rw [hr]; decide)
  | itv m n k2 hr hitv =>
   have hx : rs = (⟨#[123]⟩ : ByteArray) := by rw [hrs, hr]; rfl
   clear hrs
   subst hx
   have hx0 : x0 ≠ b := fun h => by have a := HC1.out.c; rw [h, HT.out.bk] at a; simp at a
   have hx1 : x1 ≠ b := fun h => by have a := HC1.out.x; rw [h, HT.out.bk] at a; simp at a
   have hx2 : x2 ≠ b := fun h => by have a := HC1.out.b; rw [h, HT.out.bk] at a; simp at a
   have HT1 := Lib.hid (HT.out.row hcw (#[.int .i64 1, .int .i64 k, .string (ofBys (sgT l k)), .int .i64 0, .int .u64 0, .int .u64 0, .int .u64 0, .int .u64 0, .int .i64 0, .int .i64 0, .int .i64 0, .slice none 0 0, .int .i64 0, .int .i64 0, .nilIface]))
   have HIV := Lib.hid (fun (X : World) (hX : Cur X cb (ofBys l) (k + (sgT l k).length)) => interval_any cb (k + (sgT l k).length) l HBY.out ext X hX)
   unfold ItvPost at HIV
   rw [hitv] at HIV
   dsimp only at HIV
   clear hitv ct
   have hC : CapR (w2.setRow b (#[.int .i64 1, .int .i64 k, .string (ofBys (sgT l k)), .int .i64 0, .int .u64 0, .int .u64 0, .int .u64 0, .int .u64 0, .int .i64 0, .int .i64 0, .int .i64 0, .slice none 0 0, .int .i64 0, .int .i64 0, .nilIface])) x0 x1 x2 cb ext bv := ⟨(setRow_other _ _ _ _ hx0).trans HC1.out.c, (setRow_other _ _ _ _ hx1).trans HC1.out.x, (setRow_other _ _ _ _ hx2).trans HC1.out.b, HC1.out.n0, HC1.out.n1, HC1.out.n2⟩
   clear cc0 cc1 cc2
   obtain ⟨cc0, cc1, cc2⟩ := hC.cells
   go_wp2_with (first | (refine wpList_store_at rfl 61 _ _ rfl rfl b 0 (.int .i64 1) rfl rfl rfl rfl _ (#[.int .i64 0, .int .i64 k, .string (ofBys (sgT l k)), .int .i64 0, .int .u64 0, .int .u64 0, .int .u64 0, .int .u64 0, .int .i64 0, .int .i64 0, .int .i64 0, .slice none 0 0, .int .i64 0, .int .i64 0, .nilIface]) (HT.out.bk) kind_size (Nat.le_of_ble_eq_true rfl) (#[.int .i64 1, .int .i64 k, .string (ofBys (sgT l k)), .int .i64 0, .int .u64 0, .int .u64 0, .int .u64 0, .int .u64 0, .int .i64 0, .int .i64 0, .int .i64 0, .slice none 0 0, .int .i64 0, .int .i64 0, .nilIface]) rfl ?_) | fail)
   refine (HIV.out _ HT1.out.mv.cur).mono ?_
   rintro x w3 ⟨rfl, hm3⟩
   have HT2 := Lib.hid (HT1.out.step hcw hm3)
   clear hm3 cc0 cc1 cc2 hC
   have HTE := Lib.hid (((HT2.out.row hcw (#[.int .i64 1, .int .i64 k, .string (ofBys (sgT l k)), .int .i64 0, .int .u64 0, .int .u64 0, .int .u64 0, .int .u64 0, .int .i64 0, .int .i64 0, .int .i64 0, .slice none 0 0, .int .i64 m, .int .i64 0, .nilIface])).row hcw (#[.int .i64 1, .int .i64 k, .string (ofBys (sgT l k)), .int .i64 0, .int .u64 0, .int .u64 0, .int .u64 0, .int .u64 0, .int .i64 0, .int .i64 0, .int .i64 0, .slice none 0 0, .int .i64 m, .int .i64 n, .nilIface])))
   have HCE : Hid (#[.int .i64 1, .int .i64 k, .string (ofBys (sgT l k)), .int .i64 0, .int .u64 0, .int .u64 0, .int .u64 0, .int .u64 0, .int .i64 0, .int .i64 0, .int .i64 0, .slice none 0 0, .int .i64 m, .int .i64 n, .nilIface] = sgA 1 k (ofBys (sgT l k)) zeroN m n .nilIface) := Lib.hid (by rw [zeroN_kind, sgA_no])
   go_wp2_with (first | (refine wpList_store_at rfl 3 _ _ rfl rfl b 12 (.int .i64 m) rfl rfl rfl rfl _ (#[.int .i64 1, .int .i64 k, .string (ofBys (sgT l k)), .int .i64 0, .int .u64 0, .int .u64 0, .int .u64 0, .int .u64 0, .int .i64 0, .int .i64 0, .int .i64 0, .slice none 0 0, .int .i64 0, .int .i64 0, .nilIface]) (HT2.out.bk) int_size (Nat.le_of_ble_eq_true rfl) (#[.int .i64 1, .int .i64 k, .string (ofBys (sgT l k)), .int .i64 0, .int .u64 0, .int .u64 0, .int .u64 0, .int .u64 0, .int .i64 0, .int .i64 0, .int .i64 0, .slice none 0 0, .int .i64 m, .int .i64 0, .nilIface]) rfl ?_) | (refine wpList_store_at rfl 3 _ _ rfl rfl b 13 (.int .i64 n) rfl rfl rfl rfl _ (#[.int .i64 1, .int .i64 k, .string (ofBys (sgT l k)), .int .i64 0, .int .u64 0, .int .u64 0, .int .u64 0, .int .u64 0, .int .i64 0, .int .i64 0, .int .i64 0, .slice none 0 0, .int .i64 m, .int .i64 0, .nilIface]) ((HT2.out.row hcw (#[.int .i64 1, .int .i64 k, .string (ofBys (sgT l k)), .int .i64 0, .int .u64 0, .int .u64 0, .int .u64 0, .int .u64 0, .int .i64 0, .int .i64 0, .int .i64 0, .slice none 0 0, .int .i64 m, .int .i64 0, .nilIface])).bk) int_size (Nat.le_of_ble_eq_true rfl) (#[.int .i64 1, .int .i64 k, .string (ofBys (sgT l k)), .int .i64 0, .int .u64 0, .int .u64 0, .int .u64 0, .int .u64 0, .int .i64 0, .int .i64 0, .int .i64 0, .slice none 0 0, .int .i64 m, .int .i64 n, .nilIface]) rfl ?_) | (refine wpList_load_row rfl 63 _ rfl b rfl _ (#[.int .i64 1, .int .i64 k, .string (ofBys (sgT l k)), .int .i64 0, .int .u64 0, .int .u64 0, .int .u64 0, .int .u64 0, .int .i64 0, .int .i64 0, .int .i64 0, .slice none 0 0, .int .i64 m, .int .i64 n, .nilIface]) (0, 0) _ HTE.out.bk Tryz.underlying63 rfl sg_size ?_) | (refine wpList_store_rowTo rfl 63 _ _ rfl rfl w.heap.size (#[.int .i64 1, .int .i64 k, .string (ofBys (sgT l k)), .int .i64 0, .int .u64 0, .int .u64 0, .int .u64 0, .int .u64 0, .int .i64 0, .int .i64 0, .int .i64 0, .slice none 0 0, .int .i64 m, .int .i64 n, .nilIface]) rfl rfl _ zero15 HTE.out.rk sg_size rfl (by rw [HCE.out]; simp [sgA, Value.oneCell']) ?_))
   exact bodyPost_ret (results_cell_row rfl _ _ w.heap.size _ (#[.int .i64 1, .int .i64 k, .string (ofBys (sgT l k)), .int .i64 0, .int .u64 0, .int .u64 0, .int .u64 0, .int .u64 0, .int .i64 0, .int .i64 0, .int .i64 0, .slice none 0 0, .int .i64 m, .int .i64 n, .nilIface]) (0, 0) _ rfl (setRow_selfR HTE.out.rk _) Tryz.underlying63 rfl sg_size) rfl (sgp_ok rfl ⟨by rw [HCE.out]; rfl, HTE.out.out hcw _⟩)
  | itb hr hitv =>
   have hx : rs = (⟨#[123]⟩ : ByteArray) := by rw [hrs, hr]; rfl
   clear hrs
   subst hx
   have hx0 : x0 ≠ b := fun h => by have a := HC1.out.c; rw [h, HT.out.bk] at a; simp at a
   have hx1 : x1 ≠ b := fun h => by have a := HC1.out.x; rw [h, HT.out.bk] at a; simp at a
   have hx2 : x2 ≠ b := fun h => by have a := HC1.out.b; rw [h, HT.out.bk] at a; simp at a
   have HT1 := Lib.hid (HT.out.row hcw (#[.int .i64 1, .int .i64 k, .string (ofBys (sgT l k)), .int .i64 0, .int .u64 0, .int .u64 0, .int .u64 0, .int .u64 0, .int .i64 0, .int .i64 0, .int .i64 0, .slice none 0 0, .int .i64 0, .int .i64 0, .nilIface]))
   have HIV := Lib.hid (fun (X : World) (hX : Cur X cb (ofBys l) (k + (sgT l k).length)) => interval_any cb (k + (sgT l k).length) l HBY.out ext X hX)
   unfold ItvPost at HIV
   rw [hitv] at HIV
   dsimp only at HIV
   clear hitv ct
   have hC : CapR (w2.setRow b (#[.int .i64 1, .int .i64 k, .string (ofBys (sgT l k)), .int .i64 0, .int .u64 0, .int .u64 0, .int .u64 0, .int .u64 0, .int .i64 0, .int .i64 0, .int .i64 0, .slice none 0 0, .int .i64 0, .int .i64 0, .nilIface])) x0 x1 x2 cb ext bv := ⟨(setRow_other _ _ _ _ hx0).trans HC1.out.c, (setRow_other _ _ _ _ hx1).trans HC1.out.x, (setRow_other _ _ _ _ hx2).trans HC1.out.b, HC1.out.n0, HC1.out.n1, HC1.out.n2⟩
   clear cc0 cc1 cc2
   obtain ⟨cc0, cc1, cc2⟩ := hC.cells
   go_wp2_with (first | (refine wpList_store_at rfl 61 _ _ rfl rfl b 0 (.int .i64 1) rfl rfl rfl rfl _ (#[.int .i64 0, .int .i64 k, .string (ofBys (sgT l k)), .int .i64 0, .int .u64 0, .int .u64 0, .int .u64 0, .int .u64 0, .int .i64 0, .int .i64 0, .int .i64 0, .slice none 0 0, .int .i64 0, .int .i64 0, .nilIface]) (HT.out.bk) kind_size (Nat.le_of_ble_eq_true rfl) (#[.int .i64 1, .int .i64 k, .string (ofBys (sgT l k)), .int .i64 0, .int .u64 0, .int .u64 0, .int .u64 0, .int .u64 0, .int .i64 0, .int .i64 0, .int .i64 0, .slice none 0 0, .int .i64 0, .int .i64 0, .nilIface]) rfl ?_) | fail)
   refine (HIV.out _ HT1.out.mv.cur).mono ?_
   rintro x w3 ⟨m, n, k2, rfl, hm3⟩
   have HT2 := Lib.hid (HT1.out.step hcw hm3)
   clear hm3 cc0 cc1 cc2 hC
   have HT3 := Lib.hid (((HT2.out.row hcw (#[.int .i64 1, .int .i64 k, .string (ofBys (sgT l k)), .int .i64 0, .int .u64 0, .int .u64 0, .int .u64 0, .int .u64 0, .int .i64 0, .int .i64 0, .int .i64 0, .slice none 0 0, .int .i64 m, .int .i64 0, .nilIface])).row hcw (#[.int .i64 1, .int .i64 k, .string (ofBys (sgT l k)), .int .i64 0, .int .u64 0, .int .u64 0, .int .u64 0, .int .u64 0, .int .i64 0, .int .i64 0, .int .i64 0, .slice none 0 0, .int .i64 m, .int .i64 n, .nilIface])))
   have HRF := Lib.hid (refz_err e ext _ _ (HMX.out _ _ HT3.out.mv).1 7 (k : Nat) (by simp))
   have cp : ((w3.setRow b (#[.int .i64 1, .int .i64 k, .string (ofBys (sgT l k)), .int .i64 0, .int .u64 0, .int .u64 0, .int .u64 0, .int .u64 0, .int .i64 0, .int .i64 0, .int .i64 0, .slice none 0 0, .int .i64 m, .int .i64 0, .nilIface])).setRow b (#[.int .i64 1, .int .i64 k, .string (ofBys (sgT l k)), .int .i64 0, .int .u64 0, .int .u64 0, .int .u64 0, .int .u64 0, .int .i64 0, .int .i64 0, .int .i64 0, .slice none 0 0, .int .i64 m, .int .i64 n, .nilIface])).cell? ⟨b, 1, none⟩ = some (.int .i64 k) := (Lib.cell_of_heap HT3.out.bk 1).trans rfl
   go_wp2_with (first | (refine wpList_store_at rfl 3 _ _ rfl rfl b 12 (.int .i64 m) rfl rfl rfl rfl _ (#[.int .i64 1, .int .i64 k, .string (ofBys (sgT l k)), .int .i64 0, .int .u64 0, .int .u64 0, .int .u64 0, .int .u64 0, .int .i64 0, .int .i64 0, .int .i64 0, .slice none 0 0, .int .i64 0, .int .i64 0, .nilIface]) (HT2.out.bk) int_size (Nat.le_of_ble_eq_true rfl) (#[.int .i64 1, .int .i64 k, .string (ofBys (sgT l k)), .int .i64 0, .int .u64 0, .int .u64 0, .int .u64 0, .int .u64 0, .int .i64 0, .int .i64 0, .int .i64 0, .slice none 0 0, .int .i64 m, .int .i64 0, .nilIface]) rfl ?_) | (refine wpList_store_at rfl 3 _ _ rfl rfl b 13 (.int .i64 n) rfl rfl rfl rfl _ (#[.int .i64 1, .int .i64 k, .string (ofBys (sgT l k)), .int .i64 0, .int .u64 0, .int .u64 0, .int .u64 0, .int .u64 0, .int .i64 0, .int .i64 0, .int .i64 0, .slice none 0 0, .int .i64 m, .int .i64 0, .nilIface]) ((HT2.out.row hcw (#[.int .i64 1, .int .i64 k, .string (ofBys (sgT l k)), .int .i64 0, .int .u64 0, .int .u64 0, .int .u64 0, .int .u64 0, .int .i64 0, .int .i64 0, .int .i64 0, .slice none 0 0, .int .i64 m, .int .i64 0, .nilIface])).bk) int_size (Nat.le_of_ble_eq_true rfl) (#[.int .i64 1, .int .i64 k, .string (ofBys (sgT l k)), .int .i64 0, .int .u64 0, .int .u64 0, .int .u64 0, .int .u64 0, .int .i64 0, .int .i64 0, .int .i64 0, .slice none 0 0, .int .i64 m, .int .i64 n, .nilIface]) rfl ?_) | fail)
   refine HRF.out.mono ?_
   rintro x w4 ⟨bk, rfl, he4, hb4⟩
   have HT4 := Lib.hid (HT3.out.below hb4)
   have HE4 := Lib.hid he4
   clear hb4 he4
   have HTE := Lib.hid ((HT4.out.row hcw (#[.int .i64 1, .int .i64 k, .string (ofBys (sgT l k)), .int .i64 0, .int .u64 0, .int .u64 0, .int .u64 0, .int .u64 0, .int .i64 0, .int .i64 0, .int .i64 0, .slice none 0 0, .int .i64 m, .int .i64 n, (.iface 86 (.pointer (some ⟨bk, 0, none⟩)))])))
   have HCE : Hid (#[.int .i64 1, .int .i64 k, .string (ofBys (sgT l k)), .int .i64 0, .int .u64 0, .int .u64 0, .int .u64 0, .int .u64 0, .int .i64 0, .int .i64 0, .int .i64 0, .slice none 0 0, .int .i64 m, .int .i64 n, (.iface 86 (.pointer (some ⟨bk, 0, none⟩)))] = sgA 1 k (ofBys (sgT l k)) zeroN m n (.iface 86 (.pointer (some ⟨bk, 0, none⟩)))) := Lib.hid (by rw [zeroN_kind, sgA_no])
   go_wp2_with (first | (refine wpList_store_at rfl 37 _ _ rfl rfl b 14 ((.iface 86 (.pointer (some ⟨bk, 0, none⟩)))) rfl rfl rfl rfl _ (#[.int .i64 1, .int .i64 k, .string (ofBys (sgT l k)), .int .i64 0, .int .u64 0, .int .u64 0, .int .u64 0, .int .u64 0, .int .i64 0, .int .i64 0, .int .i64 0, .slice none 0 0, .int .i64 m, .int .i64 n, .nilIface]) (HT4.out.bk) err_size (Nat.le_of_ble_eq_true rfl) (#[.int .i64 1, .int .i64 k, .string (ofBys (sgT l k)), .int .i64 0, .int .u64 0, .int .u64 0, .int .u64 0, .int .u64 0, .int .i64 0, .int .i64 0, .int .i64 0, .slice none 0 0, .int .i64 m, .int .i64 n, (.iface 86 (.pointer (some ⟨bk, 0, none⟩)))]) rfl ?_) | (refine wpList_load_row rfl 63 _ rfl b rfl _ (#[.int .i64 1, .int .i64 k, .string (ofBys (sgT l k)), .int .i64 0, .int .u64 0, .int .u64 0, .int .u64 0, .int .u64 0, .int .i64 0, .int .i64 0, .int .i64 0, .slice none 0 0, .int .i64 m, .int .i64 n, (.iface 86 (.pointer (some ⟨bk, 0, none⟩)))]) (0, 0) _ HTE.out.bk Tryz.underlying63 rfl sg_size ?_) | (refine wpList_store_rowTo rfl 63 _ _ rfl rfl w.heap.size (#[.int .i64 1, .int .i64 k, .string (ofBys (sgT l k)), .int .i64 0, .int .u64 0, .int .u64 0, .int .u64 0, .int .u64 0, .int .i64 0, .int .i64 0, .int .i64 0, .slice none 0 0, .int .i64 m, .int .i64 n, (.iface 86 (.pointer (some ⟨bk, 0, none⟩)))]) rfl rfl _ zero15 HTE.out.rk sg_size rfl (by rw [HCE.out]; simp [sgA, Value.oneCell']) ?_))
   exact bodyPost_ret (results_cell_row rfl _ _ w.heap.size _ (#[.int .i64 1, .int .i64 k, .string (ofBys (sgT l k)), .int .i64 0, .int .u64 0, .int .u64 0, .int .u64 0, .int .u64 0, .int .i64 0, .int .i64 0, .int .i64 0, .slice none 0 0, .int .i64 m, .int .i64 n, (.iface 86 (.pointer (some ⟨bk, 0, none⟩)))]) (0, 0) _ rfl (setRow_selfR HTE.out.rk _) Tryz.underlying63 rfl sg_size) rfl (sgp_bad rfl m n k2 ⟨_, _, by rw [HCE.out]; rfl, ((HE4.out.setRow HT4.out.bk (by decide) _).setRow HTE.out.rk (by decide) _), HTE.out.out hcw _⟩)
set_option maxHeartbeats 16000000 in
theorem sgn_ge (cf : ByteArray → (Nat → Bool) × Bool) (e : Nat → Addr) (bv : Value) (l : List Int) (hcf : BkC cf l) (hl : Byt l) (_h47 : l.length ≤ 1048576) (ext : Bool) (x0 x1 x2 cb k : Nat) (w : World) (he : Es w w.heap.size e) (hs : Sl w bv l) (hc : CapR w x0 x1 x2 cb ext bv) (hlo : 21 < cb) (hbc : ∀ x o n cap, bv = .slice (some ⟨x, o, none⟩) n cap → x ≠ cb) (h : Cur w cb (ofBys l) k) (s : Sg) (hsc : SgC cf l ext k s) (hxr : roleC (sgT l k) ext = 40 ∨ roleC (sgT l k) ext = 41 ∨ roleC (sgT l k) ext = 124 ∨ roleC (sgT l k) ext = 256) :
  Calls Tryz.prog 50 #[.pointer (some ⟨x0, 0, none⟩), .pointer (some ⟨x1, 0, none⟩), .pointer (some ⟨x2, 0, none⟩)] w (SgPost e l ext cb k s w) := by
 have hk := h.2.1
 rw [ofBys_size] at hk
 have hcw := h.facts.2.2.2.2
 obtain ⟨W, hW⟩ : ∃ W, W = w.alloc (.cells zero15 63) := ⟨_, rfl⟩
 have HB : Hid (Below w.heap.size w W) := Lib.hid (by rw [hW]; exact (Below.refl _ _).alloc (Nat.le_refl _) _)
 have HRK : Hid (W.heap[w.heap.size]? = some (.cells zero15 63 (0, 0))) := Lib.hid (by rw [hW]; exact alloc_last w _)
 have hwz : W.heap.size = w.heap.size + 1 := by rw [hW]; simp
 have HM0 : Hid (Mv cb (ofBys l) k w W) := Lib.hid (Mv.below h HB.out)
 have HM : Hid (Mv cb (ofBys l) k W W) := Lib.hid (Mv.refl HM0.out.cur)
 have HCP : Hid (CapR W x0 x1 x2 cb ext bv) := Lib.hid (hc.mv HM0.out)
 have hcb : cb < W.heap.size := HM0.out.cur.facts.2.2.2.2
 have HBY := Lib.hid hl
 have HWE := Lib.hid hW
 have HES := Lib.hid he
 have HSL := Lib.hid hs
 have HCF := Lib.hid hcf
 have HMX : Hid (∀ X j, Mv cb (ofBys l) j w X → (Es X X.heap.size e ∧ Sl X bv l)) := Lib.hid (fun X j hm => ⟨(by have hb := hm.1; exact ⟨fun i h1 h2 => by rw [World.cell?_of_block (w := w) (hm.2.2 _ (World.block_lt_of_cell? _ _ (he.var i h1 h2)) (by simp; omega)), he.var i h1 h2], Nat.lt_of_lt_of_le he.low hb.size, Nat.le_refl _⟩), hs.mv hm (hbc)⟩)
 have HSC := Lib.hid hsc
 have HXR := Lib.hid hxr
 obtain ⟨rs, hrs⟩ : ∃ rs, rs = ofBys (roleS (roleC (sgT l k) ext)) := ⟨_, rfl⟩
 have HRO : Hid (∀ X, Calls Tryz.prog 53 #[.string (ofBys (sgT l k)), .bool ext] X fun x w' => x = .returned (.string rs) ∧ w' = X) := Lib.hid (fun X => by
  rw [hrs]
  exact role_any (sgT l k) (sgT_byt hl k) ext X)
 unfold zero15 at HWE
 clear he hs hc h hW hl hcf hsc hxr
 go_enter Tryz.func50, Tryz.ntmps50
 go_wp2_with fail
 rw [← HWE.out]
 refine Reg.wp_region_sto (fun L u X => Sg1 W cb l k (L 3) (L 5) (L 6) (u 5) X) (fun j => ([some (.pointer (some ⟨cb, 0, none⟩)), some (.int .i64 k), some (.pointer (some ⟨cb, 0, none⟩)), some (.string (ofBys (sgT l k))), some (.agg (sgB k (ofBys (sgT l k)))), none, none] : List (Option Value)).getD j none) (by kernel_rfl) (by kernel_rfl) (by kernel_rfl) (by kernel_rfl) ?rs0 ?rsE ?rsZ
 case rs0 => exact ⟨by rw [if_neg (by decide)]; exact mv_drew HM.out, fun h => (by cases h), fun h => (by cases h)⟩
 case rsE =>
  refine Reg.EachG.plain rfl (fun L u T X hL hz hS hk K hK => ?_) ?_
  ·skip
   have g0 := hk.old 0 (by kernel_rfl) rfl
   have cc := (HCP.out.mv hS.cur).cells.1
   have hK := hK _ X ⟨hS.cur, hS.new, hS.done⟩ (fun _ hx => Option.some.inj hx)
   clear hk hz hL
   go_simp
   exact hK
  refine Reg.EachG.plain rfl (fun L u T X hL hz hS hk K hK => ?_) ?_
  ·skip
   have g6 := hk.val 0 6 (by kernel_rfl) (by kernel_rfl) rfl
   have d3 : L 3 = false := hz 3 (by kernel_rfl)
   have hcu := hS.cur
   rw [d3, if_neg (by decide)] at hcu
   have hK := hK (.int .i64 k) X ⟨hS.cur, hS.new, hS.done⟩ (fun _ hx => Option.some.inj hx)
   clear hk hz hL
   go_simp
   refine (pos_any cb k (ofBys l) _ hcu.cur).mono ?_
   rintro x w1 ⟨rfl, rfl⟩
   exact hK
  refine Reg.EachG.plain rfl (fun L u T X hL hz hS hk K hK => ?_) ?_
  ·skip
   have g0 := hk.old 0 (by kernel_rfl) rfl
   have cc := (HCP.out.mv hS.cur).cells.1
   have hK := hK _ X ⟨hS.cur, hS.new, hS.done⟩ (fun _ hx => Option.some.inj hx)
   clear hk hz hL
   go_simp
   exact hK
  refine Reg.EachG.plain rfl (fun L u T X hL hz hS hk K hK => ?_) ?_
  ·skip
   have g8 := hk.val 2 8 (by kernel_rfl) (by kernel_rfl) rfl
   have d6 : L 6 = false := hz 6 (by kernel_rfl)
   have hcu := hS.cur
   rw [hL, if_neg (by decide)] at hcu
   clear hk hz
   go_simp
   refine (nextText_any cb k l HBY.out _ hcu.cur).mono ?_
   rintro x w1 ⟨rfl, hm⟩
   refine hK _ w1 ⟨?_, fun h5 _ => ?_, fun h => (by rw [Reg.upd_ne _ _ (by decide), d6] at h; cases h)⟩ (fun _ hx => Option.some.inj hx)
   ·rw [Reg.upd_same, if_pos rfl]; exact hcu.trans hm
   ·rw [Reg.upd_ne _ _ (by decide)] at h5
    obtain ⟨b, e5, hb1, hb2⟩ := hS.new h5 d6
    exact ⟨b, by rw [Reg.upd_ne _ _ (by decide)]; exact e5, hb1, blk_mv hb2 hm (by have := hcb; omega)⟩
  refine Reg.EachG.plain rfl (fun L u T X hL hz hS hk K hK => ?_) ?_
  ·skip
   have g7 := hk.val 1 7 (by kernel_rfl) (by kernel_rfl) rfl
   have g9 := hk.val 3 9 (by kernel_rfl) (by kernel_rfl) rfl
   have hbu := sg_built k (ofBys (sgT l k))
   refine wp_build _ _ rfl ?_ ?_
   ·simp [Act.eval, g7, g9, hbu]
   have hK := hK (.agg (sgB k (ofBys (sgT l k)))) X ⟨hS.cur, hS.new, hS.done⟩ (fun _ hx => Option.some.inj hx)
   simp [Act.eval, g7, g9, hbu]
   exact hK
  refine Reg.EachG.plain rfl (fun L u T X hL hz hS hk K hK => ?_) ?_
  ·skip
   have d6 : L 6 = false := hz 6 (by kernel_rfl)
   have hK := hK (.pointer (some ⟨X.heap.size, 0, none⟩)) (X.alloc (.cells zero15 63)) ⟨by rw [Reg.upd_ne _ _ (by decide)]; exact hS.cur.alloc _, fun _ _ => ⟨X.heap.size, by rw [Reg.upd_same], hS.cur.1.size, alloc_last X _⟩, fun h => (by rw [Reg.upd_ne _ _ (by decide), d6] at h; cases h)⟩ (fun _ hx => by cases hx)
   clear hk hz hL d6 hS
   unfold zero15 at hK
   go_simp
   exact hK
  refine Reg.EachG.plain rfl (fun L u T X hL hz hS hk K hK => ?_) ?_
  ·skip
   obtain ⟨g4, l4⟩ := hk.any 5 4 (by kernel_rfl) (by kernel_rfl)
   have g10 := hk.val 4 10 (by kernel_rfl) (by kernel_rfl) rfl
   obtain ⟨b, e5, hb1, hb2⟩ := hS.new l4 hL
   rw [e5] at g4
   refine wp_store_row 63 _ _ rfl b (sgB k (ofBys (sgT l k))) (by simp [Act.eval, g4]) (by simp [Act.eval, g10]) _ zero15 hb2 sg_size rfl (by simp [sgB, Value.oneCell']) ?_
   exact hK undef _ ⟨by rw [Reg.upd_ne _ _ (by decide)]; exact mv_setRow hS.cur hb1 hcb _, fun _ h => (by rw [Reg.upd_same] at h; cases h), fun _ => ⟨b, by rw [Reg.upd_ne _ _ (by decide)]; exact e5, hb1, setRow_selfR hb2 _⟩⟩ (fun _ hx => by cases hx)
  exact Reg.EachG.nil
 case rsZ =>
  intro L u w1 hL hS hI
  have e0 := hI 0 (by decide) _ rfl
  have e1 := hI 1 (by decide) _ rfl
  have e2 := hI 2 (by decide) _ rfl
  have e3 := hI 3 (by decide) _ rfl
  have e4 := hI 4 (by decide) _ rfl
  clear hI
  simp only [Reg.putAll, Act.put, List.setIfInBounds_toArray, List.set_cons_succ, List.set_cons_zero, Nat.zero_add, Nat.reduceAdd, e0, e1, e2, e3, e4]
  clear e0 e1 e2 e3 e4
  have d3 := hL 3 (by decide)
  have d6 := hL 6 (by decide)
  have hcu := hS.cur
  rw [d3, if_pos rfl] at hcu
  obtain ⟨b, e5, hb1, hb2⟩ := hS.done d6
  rw [e5]
  have HT : Hid (SgT cb l (k + (sgT l k).length) b w.heap.size (sgB k (ofBys (sgT l k))) w w1) := Lib.hid ⟨HM0.out.trans hcu, by omega, hb2, rfl, blk_mv HRK.out hcu (by omega)⟩
  have HC1 := Lib.hid (HCP.out.mv hcu)
  have hwb : w.heap.size < b := by omega
  unfold sgB at HT
  clear hS d3 d6 hL hcu hb2 e5 u L
  obtain ⟨cc0, cc1, cc2⟩ := HC1.out.cells
  have ct : w1.cell? ⟨b, 2, none⟩ = some (.string (ofBys (sgT l k))) := (Lib.cell_of_heap HT.out.bk 2).trans rfl
  go_wp2_with fail
  refine (HRO.out _).mono ?_
  rintro x w2 ⟨rfl, rfl⟩
  cases HSC.out with
  | stop hr =>
   have hx : rs = (⟨#[101, 110, 100]⟩ : ByteArray) := by rw [hrs, hr]; rfl
   clear hrs
   subst hx
   clear cc0 cc1 cc2 ct
   have HTE := Lib.hid ((HT.out.row hcw (#[.int .i64 5, .int .i64 k, .string (ofBys (sgT l k)), .int .i64 0, .int .u64 0, .int .u64 0, .int .u64 0, .int .u64 0, .int .i64 0, .int .i64 0, .int .i64 0, .slice none 0 0, .int .i64 0, .int .i64 0, .nilIface])))
   have HCE : Hid (#[.int .i64 5, .int .i64 k, .string (ofBys (sgT l k)), .int .i64 0, .int .u64 0, .int .u64 0, .int .u64 0, .int .u64 0, .int .i64 0, .int .i64 0, .int .i64 0, .slice none 0 0, .int .i64 0, .int .i64 0, .nilIface] = sgA 5 k (ofBys (sgT l k)) zeroN 0 0 .nilIface) := Lib.hid (by rw [zeroN_kind, sgA_no])
   go_wp2_with (first | (refine wpList_store_at rfl 61 _ _ rfl rfl b 0 (.int .i64 5) rfl rfl rfl rfl _ (#[.int .i64 0, .int .i64 k, .string (ofBys (sgT l k)), .int .i64 0, .int .u64 0, .int .u64 0, .int .u64 0, .int .u64 0, .int .i64 0, .int .i64 0, .int .i64 0, .slice none 0 0, .int .i64 0, .int .i64 0, .nilIface]) (HT.out.bk) kind_size (Nat.le_of_ble_eq_true rfl) (#[.int .i64 5, .int .i64 k, .string (ofBys (sgT l k)), .int .i64 0, .int .u64 0, .int .u64 0, .int .u64 0, .int .u64 0, .int .i64 0, .int .i64 0, .int .i64 0, .slice none 0 0, .int .i64 0, .int .i64 0, .nilIface]) rfl ?_) | (refine wpList_load_row rfl 63 _ rfl b rfl _ (#[.int .i64 5, .int .i64 k, .string (ofBys (sgT l k)), .int .i64 0, .int .u64 0, .int .u64 0, .int .u64 0, .int .u64 0, .int .i64 0, .int .i64 0, .int .i64 0, .slice none 0 0, .int .i64 0, .int .i64 0, .nilIface]) (0, 0) _ HTE.out.bk Tryz.underlying63 rfl sg_size ?_) | (refine wpList_store_rowTo rfl 63 _ _ rfl rfl w.heap.size (#[.int .i64 5, .int .i64 k, .string (ofBys (sgT l k)), .int .i64 0, .int .u64 0, .int .u64 0, .int .u64 0, .int .u64 0, .int .i64 0, .int .i64 0, .int .i64 0, .slice none 0 0, .int .i64 0, .int .i64 0, .nilIface]) rfl rfl _ zero15 HTE.out.rk sg_size rfl (by rw [HCE.out]; simp [sgA, Value.oneCell']) ?_))
   exact bodyPost_ret (results_cell_row rfl _ _ w.heap.size _ (#[.int .i64 5, .int .i64 k, .string (ofBys (sgT l k)), .int .i64 0, .int .u64 0, .int .u64 0, .int .u64 0, .int .u64 0, .int .i64 0, .int .i64 0, .int .i64 0, .slice none 0 0, .int .i64 0, .int .i64 0, .nilIface]) (0, 0) _ rfl (setRow_selfR HTE.out.rk _) Tryz.underlying63 rfl sg_size) rfl (sgp_ok rfl ⟨by rw [HCE.out]; rfl, HTE.out.out hcw _⟩)
  | beg hr =>
   exact absurd HXR.out (by rw [hr]; decide)
  | fin hr =>
   exact absurd HXR.out (by rw [hr]; decide)
  | star hr =>
   exact absurd HXR.out (by rw [hr]; decide)
  | opt hr =>
   exact absurd HXR.out (by rw [hr]; decide)
  | opn hr =>
   have hx : rs = (⟨#[40]⟩ : ByteArray) := by rw [hrs, hr]; rfl
   clear hrs
   subst hx
   clear cc0 cc1 cc2 ct
   have HTE := Lib.hid ((HT.out.row hcw (#[.int .i64 2, .int .i64 k, .string (ofBys (sgT l k)), .int .i64 0, .int .u64 0, .int .u64 0, .int .u64 0, .int .u64 0, .int .i64 0, .int .i64 0, .int .i64 0, .slice none 0 0, .int .i64 0, .int .i64 0, .nilIface])))
   have HCE : Hid (#[.int .i64 2, .int .i64 k, .string (ofBys (sgT l k)), .int .i64 0, .int .u64 0, .int .u64 0, .int .u64 0, .int .u64 0, .int .i64 0, .int .i64 0, .int .i64 0, .slice none 0 0, .int .i64 0, .int .i64 0, .nilIface] = sgA 2 k (ofBys (sgT l k)) zeroN 0 0 .nilIface) := Lib.hid (by rw [zeroN_kind, sgA_no])
   go_wp2_with (first | (refine wpList_store_at rfl 61 _ _ rfl rfl b 0 (.int .i64 2) rfl rfl rfl rfl _ (#[.int .i64 0, .int .i64 k, .string (ofBys (sgT l k)), .int .i64 0, .int .u64 0, .int .u64 0, .int .u64 0, .int .u64 0, .int .i64 0, .int .i64 0, .int .i64 0, .slice none 0 0, .int .i64 0, .int .i64 0, .nilIface]) (HT.out.bk) kind_size (Nat.le_of_ble_eq_true rfl) (#[.int .i64 2, .int .i64 k, .string (ofBys (sgT l k)), .int .i64 0, .int .u64 0, .int .u64 0, .int .u64 0, .int .u64 0, .int .i64 0, .int .i64 0, .int .i64 0, .slice none 0 0, .int .i64 0, .int .i64 0, .nilIface]) rfl ?_) | (refine wpList_load_row rfl 63 _ rfl b rfl _ (#[.int .i64 2, .int .i64 k, .string (ofBys (sgT l k)), .int .i64 0, .int .u64 0, .int .u64 0, .int .u64 0, .int .u64 0, .int .i64 0, .int .i64 0, .int .i64 0, .slice none 0 0, .int .i64 0, .int .i64 0, .nilIface]) (0, 0) _ HTE.out.bk Tryz.underlying63 rfl sg_size ?_) | (refine wpList_store_rowTo rfl 63 _ _ rfl rfl w.heap.size (#[.int .i64 2, .int .i64 k, .string (ofBys (sgT l k)), .int .i64 0, .int .u64 0, .int .u64 0, .int .u64 0, .int .u64 0, .int .i64 0, .int .i64 0, .int .i64 0, .slice none 0 0, .int .i64 0, .int .i64 0, .nilIface]) rfl rfl _ zero15 HTE.out.rk sg_size rfl (by rw [HCE.out]; simp [sgA, Value.oneCell']) ?_))
   exact bodyPost_ret (results_cell_row rfl _ _ w.heap.size _ (#[.int .i64 2, .int .i64 k, .string (ofBys (sgT l k)), .int .i64 0, .int .u64 0, .int .u64 0, .int .u64 0, .int .u64 0, .int .i64 0, .int .i64 0, .int .i64 0, .slice none 0 0, .int .i64 0, .int .i64 0, .nilIface]) (0, 0) _ rfl (setRow_selfR HTE.out.rk _) Tryz.underlying63 rfl sg_size) rfl (sgp_ok rfl ⟨by rw [HCE.out]; rfl, HTE.out.out hcw _⟩)
  | shut hr =>
   have hx : rs = (⟨#[41]⟩ : ByteArray) := by rw [hrs, hr]; rfl
   clear hrs
   subst hx
   clear cc0 cc1 cc2 ct
   have HTE := Lib.hid ((HT.out.row hcw (#[.int .i64 3, .int .i64 k, .string (ofBys (sgT l k)), .int .i64 0, .int .u64 0, .int .u64 0, .int .u64 0, .int .u64 0, .int .i64 0, .int .i64 0, .int .i64 0, .slice none 0 0, .int .i64 0, .int .i64 0, .nilIface])))
   have HCE : Hid (#[.int .i64 3, .int .i64 k, .string (ofBys (sgT l k)), .int .i64 0, .int .u64 0, .int .u64 0, .int .u64 0, .int .u64 0, .int .i64 0, .int .i64 0, .int .i64 0, .slice none 0 0, .int .i64 0, .int .i64 0, .nilIface] = sgA 3 k (ofBys (sgT l k)) zeroN 0 0 .nilIface) := Lib.hid (by rw [zeroN_kind, sgA_no])
   go_wp2_with (first | (refine wpList_store_at rfl 61 _ _ rfl rfl b 0 (.int .i64 3) rfl rfl rfl rfl _ (#[.int .i64 0, .int .i64 k, .string (ofBys (sgT l k)), .int .i64 0, .int .u64 0, .int .u64 0, .int .u64 0, .int .u64 0, .int .i64 0, .int .i64 0, .int .i64 0, .slice none 0 0, .int .i64 0, .int .i64 0, .nilIface]) (HT.out.bk) kind_size (Nat.le_of_ble_eq_true rfl) (#[.int .i64 3, .int .i64 k, .string (ofBys (sgT l k)), .int .i64 0, .int .u64 0, .int .u64 0, .int .u64 0, .int .u64 0, .int .i64 0, .int .i64 0, .int .i64 0, .slice none 0 0, .int .i64 0, .int .i64 0, .nilIface]) rfl ?_) | (refine wpList_load_row rfl 63 _ rfl b rfl _ (#[.int .i64 3, .int .i64 k, .string (ofBys (sgT l k)), .int .i64 0, .int .u64 0, .int .u64 0, .int .u64 0, .int .u64 0, .int .i64 0, .int .i64 0, .int .i64 0, .slice none 0 0, .int .i64 0, .int .i64 0, .nilIface]) (0, 0) _ HTE.out.bk Tryz.underlying63 rfl sg_size ?_) | (refine wpList_store_rowTo rfl 63 _ _ rfl rfl w.heap.size (#[.int .i64 3, .int .i64 k, .string (ofBys (sgT l k)), .int .i64 0, .int .u64 0, .int .u64 0, .int .u64 0, .int .u64 0, .int .i64 0, .int .i64 0, .int .i64 0, .slice none 0 0, .int .i64 0, .int .i64 0, .nilIface]) rfl rfl _ zero15 HTE.out.rk sg_size rfl (by rw [HCE.out]; simp [sgA, Value.oneCell']) ?_))
   exact bodyPost_ret (results_cell_row rfl _ _ w.heap.size _ (#[.int .i64 3, .int .i64 k, .string (ofBys (sgT l k)), .int .i64 0, .int .u64 0, .int .u64 0, .int .u64 0, .int .u64 0, .int .i64 0, .int .i64 0, .int .i64 0, .slice none 0 0, .int .i64 0, .int .i64 0, .nilIface]) (0, 0) _ rfl (setRow_selfR HTE.out.rk _) Tryz.underlying63 rfl sg_size) rfl (sgp_ok rfl ⟨by rw [HCE.out]; rfl, HTE.out.out hcw _⟩)
  | bar hr =>
   have hx : rs = (⟨#[124]⟩ : ByteArray) := by rw [hrs, hr]; rfl
   clear hrs
   subst hx
   clear cc0 cc1 cc2 ct
   have HTE := Lib.hid ((HT.out.row hcw (#[.int .i64 4, .int .i64 k, .string (ofBys (sgT l k)), .int .i64 0, .int .u64 0, .int .u64 0, .int .u64 0, .int .u64 0, .int .i64 0, .int .i64 0, .int .i64 0, .slice none 0 0, .int .i64 0, .int .i64 0, .nilIface])))
   have HCE : Hid (#[.int .i64 4, .int .i64 k, .string (ofBys (sgT l k)), .int .i64 0, .int .u64 0, .int .u64 0, .int .u64 0, .int .u64 0, .int .i64 0, .int .i64 0, .int .i64 0, .slice none 0 0, .int .i64 0, .int .i64 0, .nilIface] = sgA 4 k (ofBys (sgT l k)) zeroN 0 0 .nilIface) := Lib.hid (by rw [zeroN_kind, sgA_no])
   go_wp2_with (first | (refine wpList_store_at rfl 61 _ _ rfl rfl b 0 (.int .i64 4) rfl rfl rfl rfl _ (#[.int .i64 0, .int .i64 k, .string (ofBys (sgT l k)), .int .i64 0, .int .u64 0, .int .u64 0, .int .u64 0, .int .u64 0, .int .i64 0, .int .i64 0, .int .i64 0, .slice none 0 0, .int .i64 0, .int .i64 0, .nilIface]) (HT.out.bk) kind_size (Nat.le_of_ble_eq_true rfl) (#[.int .i64 4, .int .i64 k, .string (ofBys (sgT l k)), .int .i64 0, .int .u64 0, .int .u64 0, .int .u64 0, .int .u64 0, .int .i64 0, .int .i64 0, .int .i64 0, .slice none 0 0, .int .i64 0, .int .i64 0, .nilIface]) rfl ?_) | (refine wpList_load_row rfl 63 _ rfl b rfl _ (#[.int .i64 4, .int .i64 k, .string (ofBys (sgT l k)), .int .i64 0, .int .u64 0, .int .u64 0, .int .u64 0, .int .u64 0, .int .i64 0, .int .i64 0, .int .i64 0, .slice none 0 0, .int .i64 0, .int .i64 0, .nilIface]) (0, 0) _ HTE.out.bk Tryz.underlying63 rfl sg_size ?_) | (refine wpList_store_rowTo rfl 63 _ _ rfl rfl w.heap.size (#[.int .i64 4, .int .i64 k, .string (ofBys (sgT l k)), .int .i64 0, .int .u64 0, .int .u64 0, .int .u64 0, .int .u64 0, .int .i64 0, .int .i64 0, .int .i64 0, .slice none 0 0, .int .i64 0, .int .i64 0, .nilIface]) rfl rfl _ zero15 HTE.out.rk sg_size rfl (by rw [HCE.out]; simp [sgA, Value.oneCell']) ?_))
   exact bodyPost_ret (results_cell_row rfl _ _ w.heap.size _ (#[.int .i64 4, .int .i64 k, .string (ofBys (sgT l k)), .int .i64 0, .int .u64 0, .int .u64 0, .int .u64 0, .int .u64 0, .int .i64 0, .int .i64 0, .int .i64 0, .slice none 0 0, .int .i64 0, .int .i64 0, .nilIface]) (0, 0) _ rfl (setRow_selfR HTE.out.rk _) Tryz.underlying63 rfl sg_size) rfl (sgp_ok rfl ⟨by rw [HCE.out]; rfl, HTE.out.out hcw _⟩)
  | plus hr =>
   exact absurd HXR.out (by rw [hr]; decide)
  | byt c hr hlit =>
   exact absurd HXR.out (by rw [hr]; decide)
  | esc c hr hlit =>
   exact absurd HXR.out (by rw [hr]; decide)
  | any1 hr =>
   exact absurd HXR.out (by rw [hr]; decide)
  | brk p nx hr hbr =>
   exact absurd HXR.out (by rw [hr]; decide)
  | brb c pos hr hbr =>
   exact absurd HXR.out (by rw [hr]; decide)
  | itv m n k2 hr hitv =>
   exact absurd HXR.out (by rw [hr]; decide)
  | itb hr hitv =>
   exact absurd HXR.out (by rw [hr]; decide)
end Go.Proofs.YtnpkcllbpnmabaaGreatDoor
