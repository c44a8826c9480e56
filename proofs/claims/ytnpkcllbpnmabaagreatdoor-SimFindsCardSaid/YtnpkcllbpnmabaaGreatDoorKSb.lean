import Derived.Test.YtnpkcllbpnmabaaGreatDoorKSa
import Derived.Test.YtnpkcllbpnmabaaGreatDoorKNt
import Derived.Test.YtnpkcllbpnmabaaGreatDoorKSet
namespace Go.Proofs.YtnpkcllbpnmabaaGreatDoor
set_option maxRecDepth 100000
open Go.RowKit
def tagT (A0 : Th) (f : Nat) (L : List Nat) : Th := A0 ++ (L.drop A0.length).map (fun y => (y, f))
theorem tagT_fst {A0 : Th} {f : Nat} {L : List Nat} (h : A0.map Prod.fst <+: L) : (tagT A0 f L).map Prod.fst = L := by
 obtain ⟨t, rfl⟩ := h
 have e : List.map (Prod.fst ∘ fun y => (y, f)) t = t := List.map_id'' (fun _ => rfl) t
 unfold tagT
 rw [List.drop_left' (by simp)]
 simp [e]
theorem tagT_snoc {A0 : Th} {f x : Nat} {L : List Nat} (h : A0.map Prod.fst <+: L) : tagT A0 f L ++ [(x, f)] = tagT A0 f (L ++ [x]) := by
 obtain ⟨t, rfl⟩ := h
 unfold tagT
 rw [List.append_assoc (A0.map Prod.fst), List.drop_left' (by simp), List.drop_left' (by simp)]
 simp
theorem tagT_self (A0 : Th) (f : Nat) : tagT A0 f (A0.map Prod.fst) = A0 := by
 unfold tagT
 rw [List.drop_of_length_le (by simp)]
 simp
theorem entT_tag (G : List St) (pb pe : Bool) (x f : Nat) (T : Th) : tagT T f (addF G pb pe (G.length + 1) x (T.map Prod.fst)) = entT G pb pe x f T := by
 unfold tagT entT newT
 rw [List.length_map]
theorem addFt_in {G : List St} {pb pe : Bool} {k x : Nat} {L : List Nat} (hc : L.contains x = true) : addF G pb pe (k + 1) x L = L := by
 unfold addF
 rw [if_pos hc]
theorem addFt_fork {G : List St} {pb pe : Bool} {k x y z : Nat} {L : List Nat} (hc : L.contains x = false) (e : G[x]? = some (.fork y z)) : addF G pb pe (k + 1) x L = addF G pb pe k z (addF G pb pe k y (L ++ [x])) := by
 conv => lhs; unfold addF
 rw [if_neg (by rw [hc]; decide), e]
theorem addFt_beg {G : List St} {pb pe : Bool} {k x y : Nat} {L : List Nat} (hc : L.contains x = false) (e : G[x]? = some (.beg y)) : addF G pb pe (k + 1) x L = if pb then addF G pb pe k y (L ++ [x]) else L ++ [x] := by
 conv => lhs; unfold addF
 rw [if_neg (by rw [hc]; decide), e]
theorem addFt_fin {G : List St} {pb pe : Bool} {k x y : Nat} {L : List Nat} (hc : L.contains x = false) (e : G[x]? = some (.fin y)) : addF G pb pe (k + 1) x L = if pe then addF G pb pe k y (L ++ [x]) else L ++ [x] := by
 conv => lhs; unfold addF
 rw [if_neg (by rw [hc]; decide), e]
theorem addFt_eat {G : List St} {pb pe : Bool} {k x y : Nat} {p : Nat → Bool} {L : List Nat} (hc : L.contains x = false) (e : G[x]? = some (.eat p y)) : addF G pb pe (k + 1) x L = L ++ [x] := by
 conv => lhs; unfold addF
 rw [if_neg (by rw [hc]; decide), e]
theorem addFt_acc {G : List St} {pb pe : Bool} {k x : Nat} {L : List Nat} (hc : L.contains x = false) (e : G[x]? = some .acc) : addF G pb pe (k + 1) x L = L ++ [x] := by
 conv => lhs; unfold addF
 rw [if_neg (by rw [hc]; decide), e]
def RchQ (B rb gb n gen vb f : Nat) (S vC : Value) (A0 C : Th) (L : List Nat) (w : World) (r : Ending) (w' : World) : Prop := r = .returned (.tuple #[]) ∧ ∃ vA', RunB true B rb gb n S gen (vb + L.length) (tagT A0 f L) C vA' vC w' ∧ ChSm B w w'
def ReachC (k : Nat) : Prop := ∀ (B B' gb st rb n gen vb f b4 b6 : Nat) (S : Value) (g : List St) (A0 C : Th) (L : List Nat) (vA vC : Value) (x : Nat) (pb pe : Bool) (w : World), n = g.length → ClG g → GrAt B' gb g st w → CapS b4 b6 rb f w → RunB true B rb gb n S gen (vb + L.length) (tagT A0 f L) C vA vC w → A0.map Prod.fst <+: L → B ≤ w.heap.size → vb ≤ 4611686018427300000 → unm n L < k → x < n →
 Calls Tryz.prog 41 #[.pointer (some ⟨gb, 0, none⟩), .int .i64 (x : Nat), .agg #[.bool pb, .bool pe], .func (Fn.func 43) #[] #[.pointer (some ⟨b4, 0, none⟩), .pointer (some ⟨b6, 0, none⟩)]] w (RchQ B rb gb n gen vb f S vC A0 C (addF g pb pe k x L) w)
set_option maxHeartbeats 16000000 in
theorem reach_step (k : Nat) (ih : ReachC k) : ReachC (k + 1) := by
 intro B B' gb st rb n gen vb f b4 b6 S g A0 C L vA vC x pb pe w hn hcl hg hcap hS hpre hB hvb hu hx
 have hfst := tagT_fst (f := f) hpre
 have hL4 : L.length ≤ 4000 := by have h1 := hS.un; have h2 := hS.n4; rw [hfst] at h1; have h3 : (tagT A0 f L).length = L.length := by rw [← hfst, List.length_map, hfst]
                                  omega
 obtain ⟨W, hW⟩ : ∃ W, W = w.alloc (.cells #[.bool pb, .bool pe] 111) := ⟨_, rfl⟩
 have hb : Below w.heap.size w W := by rw [hW]; exact (Below.refl _ _).alloc (Nat.le_refl _) _
 have HP0 : Hid (W.heap[w.heap.size]? = some (.cells #[.bool pb, .bool pe] 111 (0, 0))) := Lib.hid (by rw [hW]; exact alloc_last w _)
 have HWE := Lib.hid hW
 have hBW : B ≤ W.heap.size := Nat.le_trans hB hb.size
 have HCW : Hid (ChSm B w W) := Lib.hid (ChSm.below hb hB)
 have HGW := Lib.hid (hg.below hb)
 have HKW := Lib.hid (hcap.below hb)
 by_cases hc : L.contains x = true
 ·have HPUT := Lib.hid (put_in B rb gb n gen _ b4 b6 f x S vA vC _ C W (hS.below hb) HKW.out hx (by rw [hfst]; exact hc))
  have HSW := Lib.hid (hS.below hb)
  rw [addFt_in hc]
  unfold RchQ
  clear hW hS hg hcap hcl ih hc hfst
  go_enter Tryz.func41, Tryz.ntmps41
  go_upto_region 1 with fail
  rw [← HWE.out]
  go_wp2_with (first | (go_at_call 43; refine HPUT.out.mono ?_; rintro r W1 ⟨rfl, hb1⟩; have HB1 := Lib.hid hb1; clear hb1) | fail)
  refine bodyPost_ret (results_none rfl _ _ _) rfl ?_
  exact ⟨rfl, vA, HSW.out.below HB1.out, HCW.out.trans (ChSm.below HB1.out hBW)⟩
 have hc' : L.contains x = false := by simpa using hc
 have hsn := tagT_snoc (f := f) (x := x) hpre
 have hpre2 : A0.map Prod.fst <+: L ++ [x] := hpre.trans (List.prefix_append _ _)
 have HPUT := Lib.hid (put_new B rb gb n gen _ b4 b6 f x S vA vC _ C W (hS.below hb) HKW.out hx (by rw [hfst]; exact hc') hBW (by omega))
 unfold PutSQ at HPUT
 rw [hsn] at HPUT
 obtain ⟨s, hsx⟩ : ∃ s, g[x]? = some s := ⟨_, List.getElem?_eq_getElem (by omega)⟩
 have HSX := Lib.hid hsx
 have HCT := Lib.hid hc'
 have HIH := Lib.hid ih
 have HCL := Lib.hid hcl
 have HN := Lib.hid hn
 have HPR := Lib.hid hpre2
 have HUN : Hid (unm n (L ++ [x]) + 1 = unm n L) := Lib.hid (unm_add n L x hx hc')
 unfold RchQ
 clear hW hS hg hcap hcl ih hc hc' hfst hsn hpre hpre2 hn
 go_enter Tryz.func41, Tryz.ntmps41
 go_upto_region 1 with fail
 rw [← HWE.out]
 go_upto_region 2 with (first | (go_at_call 43; refine HPUT.out.mono ?_; rintro r W1 ⟨rfl, vA1, hs1, hc1⟩; have HS1 := Lib.hid hs1; have HC1 := Lib.hid (HCW.out.trans hc1); have HG1 := Lib.hid (HGW.out.chSm hc1); have HK1 := Lib.hid (HKW.out.chSm hc1); have HP1 := Lib.hid (hc1.blk HP0.out (by decide) (by decide)); clear hs1 hc1) | fail)
 clear HPUT HGW HKW HP0 HWE
 obtain ⟨g0, cap, cur, hgc, hgl, hg0, hgp⟩ := HG1.out.at hsx
 have HG0 := Lib.hid hg0
 have HGP := Lib.hid hgp
 have hxg : (x : Int) < (g.length : Int) := by have := HN.out; omega
 have hx0 : (0 : Int) ≤ (x : Int) := by omega
 have hg0l := lt_blkB hg0
 have hL1 : vb + L.length + 1 = vb + (L ++ [x]).length := by simp; omega
 rw [hL1] at HS1
 have hB1 : B ≤ W1.heap.size := Nat.le_trans hB HC1.out.bel.size
 have HCALL : Hid (∀ (X : World) (L' : List Nat) (v' : Value) (y : Nat), ChSm B w X → GrAt B' gb g st X → CapS b4 b6 rb f X → RunB true B rb gb n S gen (vb + L'.length) (tagT A0 f L') C v' vC X → A0.map Prod.fst <+: L' → unm n L' < k → y < n → Calls Tryz.prog 41 #[.pointer (some ⟨gb, 0, none⟩), .int .i64 (y : Nat), .agg #[.bool pb, .bool pe], .func (Fn.func 43) #[] #[.pointer (some ⟨b4, 0, none⟩), .pointer (some ⟨b6, 0, none⟩)]] X (RchQ B rb gb n gen vb f S vC A0 C (addF g pb pe k y L') X)) := Lib.hid (fun X L' v' y h1 h2 h3 h4 h5 h6 h7 => HIH.out B B' gb st rb n gen vb f b4 b6 S g A0 C L' v' vC y pb pe X HN.out HCL.out h2 h3 h4 h5 (Nat.le_trans hB h1.bel.size) hvb h6 h7)
 clear hsx hg0 hgp hL1
 cases s with
 | acc =>
  have s0 : W1.cell? ⟨g0, x * 7, none⟩ = some (.int .i64 0) := (Lib.cell_of_heap HG0.out (x * 7)).trans (HGP.out 0 _ rfl)
  have HE : Hid (addF g pb pe (k + 1) x L = L ++ [x]) := Lib.hid (addFt_acc HCT.out HSX.out)
  go_wp2
  go_end0
  rw [HE.out]
  exact ⟨rfl, _, HS1.out, HC1.out⟩
 | eat p y =>
  have s0 : W1.cell? ⟨g0, x * 7, none⟩ = some (.int .i64 1) := (Lib.cell_of_heap HG0.out (x * 7)).trans (HGP.out 0 _ rfl)
  have HE : Hid (addF g pb pe (k + 1) x L = L ++ [x]) := Lib.hid (addFt_eat HCT.out HSX.out)
  go_wp2
  go_end0
  rw [HE.out]
  exact ⟨rfl, _, HS1.out, HC1.out⟩
 | beg y =>
  have s0 : W1.cell? ⟨g0, x * 7, none⟩ = some (.int .i64 2) := (Lib.cell_of_heap HG0.out (x * 7)).trans (HGP.out 0 _ rfl)
  have s5 : W1.cell? ⟨g0, x * 7 + 5, none⟩ = some (.int .i64 (y : Nat)) := (Lib.cell_of_heap HG0.out (x * 7 + 5)).trans (HGP.out 5 _ rfl)
  have p5 : W1.cell? ⟨w.heap.size, 0, none⟩ = some (.bool pb) := (Lib.cell_of_heap HP1.out 0).trans rfl
  have p6 : W1.cell? ⟨w.heap.size, 1, none⟩ = some (.bool pe) := (Lib.cell_of_heap HP1.out 1).trans rfl
  have pz := lt_blkB HP1.out
  have HE := Lib.hid (addFt_beg (pb := pb) (pe := pe) (k := k) HCT.out HSX.out)
  have hyn : y < n := by have := HCL.out x _ HSX.out y (by simp [St.to]); have := HN.out; omega
  have hun : unm n (L ++ [x]) < k := by have := HUN.out; omega
  cases pb with
  | false =>
   have HE := Lib.hid (HE.out.trans (if_neg (by decide)))
   go_wp2
   go_end0
   rw [HE.out]
   exact ⟨rfl, _, HS1.out, HC1.out⟩
  | true =>
   have HE := Lib.hid (HE.out.trans (if_pos rfl))
   go_upto_region 9 with fail
   have t5 : W1.drew.cell? ⟨g0, x * 7 + 5, none⟩ = some (.int .i64 (y : Nat)) := s5
   have t6 : W1.drew.cell? ⟨w.heap.size, 0, none⟩ = some (.bool true) := p5
   have t7 : W1.drew.cell? ⟨w.heap.size, 1, none⟩ = some (.bool pe) := p6
   have tz : w.heap.size < W1.drew.heap.size := pz
   have tg : g0 < W1.drew.heap.size := hg0l
   have HA := Lib.hid (HCALL.out W1.drew (L ++ [x]) vA1 y (HC1.out.trans (ChSm.below (Below.refl _ _).drew hB1)) (HG1.out.below (Below.refl _ _).drew) (HK1.out.below (Below.refl _ _).drew) (HS1.out.below (Below.refl _ _).drew) HPR.out hun (by omega))
   clear s0 s5 p5 p6 pz hg0l
   refine Reg.wp_region_sto (fun L' u X => if L' 7 = true then RchQ B rb gb n gen vb f S vC A0 C (addF g true pe k y (L ++ [x])) W1.drew (.returned (.tuple #[])) X else X = W1.drew) (fun j => ([some (.pointer (some ⟨gb, 0, none⟩)), some (.pointer (some ⟨g0, x * 7, none⟩)), some (.pointer (some ⟨g0, x * 7, none⟩)), some (.pointer (some ⟨g0, x * 7 + 5, none⟩)), some (.int .i64 (y : Nat)), some (.agg #[.bool true, .bool pe]), some (.func (Fn.func 43) #[] #[.pointer (some ⟨b4, 0, none⟩), .pointer (some ⟨b6, 0, none⟩)]), some (.tuple #[])] : List (Option Value)).getD j none) (by kernel_rfl) (by kernel_rfl) (by kernel_rfl) (by kernel_rfl) ?rs0 ?rsE ?rsZ
   case rs0 => (rw [if_neg (by decide)]; rfl)
   case rsE =>
    refine Reg.EachG.plain rfl (fun L' u T X hL hz hS hk K hK => ?_) ?_
    ·skip
     have g0 := hk.old 0 (by kernel_rfl) rfl
     have hS0 := hS
     rw [hz 7 (by kernel_rfl), if_neg (by decide)] at hS0
     have hK := hK _ X (by rw [Reg.upd_ne _ _ (by decide)]; exact hS) (fun _ hx => Option.some.inj hx)
     subst hS0
     clear hk hz hL hS
     go_simp
     exact hK
    refine Reg.EachG.plain rfl (fun L' u T X hL hz hS hk K hK => ?_) ?_
    ·skip
     have g8 := hk.old 8 (by kernel_rfl) rfl
     have hS0 := hS
     rw [hz 7 (by kernel_rfl), if_neg (by decide)] at hS0
     have hK := hK _ X (by rw [Reg.upd_ne _ _ (by decide)]; exact hS) (fun _ hx => Option.some.inj hx)
     subst hS0
     clear hk hz hL hS
     go_simp
     exact hK
    refine Reg.EachG.plain rfl (fun L' u T X hL hz hS hk K hK => ?_) ?_
    ·skip
     have g46 := hk.val 1 46 (by kernel_rfl) (by kernel_rfl) rfl
     have hS0 := hS
     rw [hz 7 (by kernel_rfl), if_neg (by decide)] at hS0
     have hK := hK _ X (by rw [Reg.upd_ne _ _ (by decide)]; exact hS) (fun _ hx => Option.some.inj hx)
     subst hS0
     clear hk hz hL hS
     go_simp
     exact hK
    refine Reg.EachG.plain rfl (fun L' u T X hL hz hS hk K hK => ?_) ?_
    ·skip
     have g47 := hk.val 2 47 (by kernel_rfl) (by kernel_rfl) rfl
     have hS0 := hS
     rw [hz 7 (by kernel_rfl), if_neg (by decide)] at hS0
     have hK := hK _ X (by rw [Reg.upd_ne _ _ (by decide)]; exact hS) (fun _ hx => Option.some.inj hx)
     subst hS0
     clear hk hz hL hS
     go_simp
     exact hK
    refine Reg.EachG.plain rfl (fun L' u T X hL hz hS hk K hK => ?_) ?_
    ·skip
     have g48 := hk.val 3 48 (by kernel_rfl) (by kernel_rfl) rfl
     have hS0 := hS
     rw [hz 7 (by kernel_rfl), if_neg (by decide)] at hS0
     have hK := hK _ X (by rw [Reg.upd_ne _ _ (by decide)]; exact hS) (fun _ hx => Option.some.inj hx)
     subst hS0
     clear hk hz hL hS
     go_simp
     exact hK
    refine Reg.EachG.plain rfl (fun L' u T X hL hz hS hk K hK => ?_) ?_
    ·skip
     have g6 := hk.old 6 (by kernel_rfl) rfl
     have hS0 := hS
     rw [hz 7 (by kernel_rfl), if_neg (by decide)] at hS0
     have hK := hK _ X (by rw [Reg.upd_ne _ _ (by decide)]; exact hS) (fun _ hx => Option.some.inj hx)
     subst hS0
     clear hk hz hL hS
     go_simp
     exact hK
    refine Reg.EachG.plain rfl (fun L' u T X hL hz hS hk K hK => ?_) ?_
    ·skip
     have g3 := hk.old 3 (by kernel_rfl) rfl
     have hS0 := hS
     rw [hz 7 (by kernel_rfl), if_neg (by decide)] at hS0
     have hK := hK _ X (by rw [Reg.upd_ne _ _ (by decide)]; exact hS) (fun _ hx => Option.some.inj hx)
     subst hS0
     clear hk hz hL hS
     go_simp
     exact hK
    refine Reg.EachG.plain rfl (fun L' u T X hL hz hS hk K hK => ?_) ?_
    ·skip
     have g45 := hk.val 0 45 (by kernel_rfl) (by kernel_rfl) rfl
     have g49 := hk.val 4 49 (by kernel_rfl) (by kernel_rfl) rfl
     have g50 := hk.val 5 50 (by kernel_rfl) (by kernel_rfl) rfl
     have g51 := hk.val 6 51 (by kernel_rfl) (by kernel_rfl) rfl
     rw [hL, if_neg (by decide)] at hS
     subst hS
     clear hk hz
     go_simp
     refine HA.out.mono ?_
     rintro r X1 hq
     obtain rfl := hq.1
     exact hK _ X1 (by rw [Reg.upd_same, if_pos rfl]; exact hq) (fun _ hx => Option.some.inj hx)
    exact Reg.EachG.nil
   case rsZ =>
    intro L' u w1 hL hS hI
    have e0 := hI 0 (by decide) _ rfl
    have e1 := hI 1 (by decide) _ rfl
    have e2 := hI 2 (by decide) _ rfl
    have e3 := hI 3 (by decide) _ rfl
    have e4 := hI 4 (by decide) _ rfl
    have e5 := hI 5 (by decide) _ rfl
    have e6 := hI 6 (by decide) _ rfl
    have e7 := hI 7 (by decide) _ rfl
    clear hI
    simp only [Reg.putAll, Act.put, List.setIfInBounds_toArray, List.set_cons_succ, List.set_cons_zero, Nat.zero_add, Nat.reduceAdd, e0, e1, e2, e3, e4, e5, e6, e7]
    clear e0 e1 e2 e3 e4 e5 e6 e7
    rw [hL 7 (by decide), if_pos rfl] at hS
    obtain ⟨_, v2, hs2, hc2⟩ := hS
    have HS2 := Lib.hid hs2
    have HC2 := Lib.hid (HC1.out.trans ((ChSm.below (Below.refl _ _).drew hB1).trans hc2))
    clear hs2 hc2 hL u L'
    go_wp2
    go_end0
    rw [HE.out]
    first | exact ⟨rfl, v2, HS2.out, HC2.out⟩ | exact ⟨rfl, ⟨v2, HS2.out⟩, HC2.out⟩
 | fin y =>
  have s0 : W1.cell? ⟨g0, x * 7, none⟩ = some (.int .i64 3) := (Lib.cell_of_heap HG0.out (x * 7)).trans (HGP.out 0 _ rfl)
  have s5 : W1.cell? ⟨g0, x * 7 + 5, none⟩ = some (.int .i64 (y : Nat)) := (Lib.cell_of_heap HG0.out (x * 7 + 5)).trans (HGP.out 5 _ rfl)
  have p5 : W1.cell? ⟨w.heap.size, 0, none⟩ = some (.bool pb) := (Lib.cell_of_heap HP1.out 0).trans rfl
  have p6 : W1.cell? ⟨w.heap.size, 1, none⟩ = some (.bool pe) := (Lib.cell_of_heap HP1.out 1).trans rfl
  have pz := lt_blkB HP1.out
  have HE := Lib.hid (addFt_fin (pb := pb) (pe := pe) (k := k) HCT.out HSX.out)
  have hyn : y < n := by have := HCL.out x _ HSX.out y (by simp [St.to]); have := HN.out; omega
  have hun : unm n (L ++ [x]) < k := by have := HUN.out; omega
  cases pe with
  | false =>
   have HE := Lib.hid (HE.out.trans (if_neg (by decide)))
   go_wp2
   go_end0
   rw [HE.out]
   exact ⟨rfl, _, HS1.out, HC1.out⟩
  | true =>
   have HE := Lib.hid (HE.out.trans (if_pos rfl))
   go_upto_region 12 with fail
   have t5 : W1.drew.cell? ⟨g0, x * 7 + 5, none⟩ = some (.int .i64 (y : Nat)) := s5
   have t6 : W1.drew.cell? ⟨w.heap.size, 0, none⟩ = some (.bool pb) := p5
   have t7 : W1.drew.cell? ⟨w.heap.size, 1, none⟩ = some (.bool true) := p6
   have tz : w.heap.size < W1.drew.heap.size := pz
   have tg : g0 < W1.drew.heap.size := hg0l
   have HA := Lib.hid (HCALL.out W1.drew (L ++ [x]) vA1 y (HC1.out.trans (ChSm.below (Below.refl _ _).drew hB1)) (HG1.out.below (Below.refl _ _).drew) (HK1.out.below (Below.refl _ _).drew) (HS1.out.below (Below.refl _ _).drew) HPR.out hun (by omega))
   clear s0 s5 p5 p6 pz hg0l
   refine Reg.wp_region_sto (fun L' u X => if L' 7 = true then RchQ B rb gb n gen vb f S vC A0 C (addF g pb true k y (L ++ [x])) W1.drew (.returned (.tuple #[])) X else X = W1.drew) (fun j => ([some (.pointer (some ⟨gb, 0, none⟩)), some (.pointer (some ⟨g0, x * 7, none⟩)), some (.pointer (some ⟨g0, x * 7, none⟩)), some (.pointer (some ⟨g0, x * 7 + 5, none⟩)), some (.int .i64 (y : Nat)), some (.agg #[.bool pb, .bool true]), some (.func (Fn.func 43) #[] #[.pointer (some ⟨b4, 0, none⟩), .pointer (some ⟨b6, 0, none⟩)]), some (.tuple #[])] : List (Option Value)).getD j none) (by kernel_rfl) (by kernel_rfl) (by kernel_rfl) (by kernel_rfl) ?rs0 ?rsE ?rsZ
   case rs0 => (rw [if_neg (by decide)]; rfl)
   case rsE =>
    refine Reg.EachG.plain rfl (fun L' u T X hL hz hS hk K hK => ?_) ?_
    ·skip
     have g0 := hk.old 0 (by kernel_rfl) rfl
     have hS0 := hS
     rw [hz 7 (by kernel_rfl), if_neg (by decide)] at hS0
     have hK := hK _ X (by rw [Reg.upd_ne _ _ (by decide)]; exact hS) (fun _ hx => Option.some.inj hx)
     subst hS0
     clear hk hz hL hS
     go_simp
     exact hK
    refine Reg.EachG.plain rfl (fun L' u T X hL hz hS hk K hK => ?_) ?_
    ·skip
     have g8 := hk.old 8 (by kernel_rfl) rfl
     have hS0 := hS
     rw [hz 7 (by kernel_rfl), if_neg (by decide)] at hS0
     have hK := hK _ X (by rw [Reg.upd_ne _ _ (by decide)]; exact hS) (fun _ hx => Option.some.inj hx)
     subst hS0
     clear hk hz hL hS
     go_simp
     exact hK
    refine Reg.EachG.plain rfl (fun L' u T X hL hz hS hk K hK => ?_) ?_
    ·skip
     have g58 := hk.val 1 58 (by kernel_rfl) (by kernel_rfl) rfl
     have hS0 := hS
     rw [hz 7 (by kernel_rfl), if_neg (by decide)] at hS0
     have hK := hK _ X (by rw [Reg.upd_ne _ _ (by decide)]; exact hS) (fun _ hx => Option.some.inj hx)
     subst hS0
     clear hk hz hL hS
     go_simp
     exact hK
    refine Reg.EachG.plain rfl (fun L' u T X hL hz hS hk K hK => ?_) ?_
    ·skip
     have g59 := hk.val 2 59 (by kernel_rfl) (by kernel_rfl) rfl
     have hS0 := hS
     rw [hz 7 (by kernel_rfl), if_neg (by decide)] at hS0
     have hK := hK _ X (by rw [Reg.upd_ne _ _ (by decide)]; exact hS) (fun _ hx => Option.some.inj hx)
     subst hS0
     clear hk hz hL hS
     go_simp
     exact hK
    refine Reg.EachG.plain rfl (fun L' u T X hL hz hS hk K hK => ?_) ?_
    ·skip
     have g60 := hk.val 3 60 (by kernel_rfl) (by kernel_rfl) rfl
     have hS0 := hS
     rw [hz 7 (by kernel_rfl), if_neg (by decide)] at hS0
     have hK := hK _ X (by rw [Reg.upd_ne _ _ (by decide)]; exact hS) (fun _ hx => Option.some.inj hx)
     subst hS0
     clear hk hz hL hS
     go_simp
     exact hK
    refine Reg.EachG.plain rfl (fun L' u T X hL hz hS hk K hK => ?_) ?_
    ·skip
     have g6 := hk.old 6 (by kernel_rfl) rfl
     have hS0 := hS
     rw [hz 7 (by kernel_rfl), if_neg (by decide)] at hS0
     have hK := hK _ X (by rw [Reg.upd_ne _ _ (by decide)]; exact hS) (fun _ hx => Option.some.inj hx)
     subst hS0
     clear hk hz hL hS
     go_simp
     exact hK
    refine Reg.EachG.plain rfl (fun L' u T X hL hz hS hk K hK => ?_) ?_
    ·skip
     have g3 := hk.old 3 (by kernel_rfl) rfl
     have hS0 := hS
     rw [hz 7 (by kernel_rfl), if_neg (by decide)] at hS0
     have hK := hK _ X (by rw [Reg.upd_ne _ _ (by decide)]; exact hS) (fun _ hx => Option.some.inj hx)
     subst hS0
     clear hk hz hL hS
     go_simp
     exact hK
    refine Reg.EachG.plain rfl (fun L' u T X hL hz hS hk K hK => ?_) ?_
    ·skip
     have g57 := hk.val 0 57 (by kernel_rfl) (by kernel_rfl) rfl
     have g61 := hk.val 4 61 (by kernel_rfl) (by kernel_rfl) rfl
     have g62 := hk.val 5 62 (by kernel_rfl) (by kernel_rfl) rfl
     have g63 := hk.val 6 63 (by kernel_rfl) (by kernel_rfl) rfl
     rw [hL, if_neg (by decide)] at hS
     subst hS
     clear hk hz
     go_simp
     refine HA.out.mono ?_
     rintro r X1 hq
     obtain rfl := hq.1
     exact hK _ X1 (by rw [Reg.upd_same, if_pos rfl]; exact hq) (fun _ hx => Option.some.inj hx)
    exact Reg.EachG.nil
   case rsZ =>
    intro L' u w1 hL hS hI
    have e0 := hI 0 (by decide) _ rfl
    have e1 := hI 1 (by decide) _ rfl
    have e2 := hI 2 (by decide) _ rfl
    have e3 := hI 3 (by decide) _ rfl
    have e4 := hI 4 (by decide) _ rfl
    have e5 := hI 5 (by decide) _ rfl
    have e6 := hI 6 (by decide) _ rfl
    have e7 := hI 7 (by decide) _ rfl
    clear hI
    simp only [Reg.putAll, Act.put, List.setIfInBounds_toArray, List.set_cons_succ, List.set_cons_zero, Nat.zero_add, Nat.reduceAdd, e0, e1, e2, e3, e4, e5, e6, e7]
    clear e0 e1 e2 e3 e4 e5 e6 e7
    rw [hL 7 (by decide), if_pos rfl] at hS
    obtain ⟨_, v2, hs2, hc2⟩ := hS
    have HS2 := Lib.hid hs2
    have HC2 := Lib.hid (HC1.out.trans ((ChSm.below (Below.refl _ _).drew hB1).trans hc2))
    clear hs2 hc2 hL u L'
    go_wp2
    go_end0
    rw [HE.out]
    first | exact ⟨rfl, v2, HS2.out, HC2.out⟩ | exact ⟨rfl, ⟨v2, HS2.out⟩, HC2.out⟩
 | fork y z =>
  have s0 : W1.cell? ⟨g0, x * 7, none⟩ = some (.int .i64 4) := (Lib.cell_of_heap HG0.out (x * 7)).trans (HGP.out 0 _ rfl)
  have s5 : W1.cell? ⟨g0, x * 7 + 5, none⟩ = some (.int .i64 (y : Nat)) := (Lib.cell_of_heap HG0.out (x * 7 + 5)).trans (HGP.out 5 _ rfl)
  have s6 : W1.cell? ⟨g0, x * 7 + 6, none⟩ = some (.int .i64 (z : Nat)) := (Lib.cell_of_heap HG0.out (x * 7 + 6)).trans (HGP.out 6 _ rfl)
  have p5 : W1.cell? ⟨w.heap.size, 0, none⟩ = some (.bool pb) := (Lib.cell_of_heap HP1.out 0).trans rfl
  have p6 : W1.cell? ⟨w.heap.size, 1, none⟩ = some (.bool pe) := (Lib.cell_of_heap HP1.out 1).trans rfl
  have pz := lt_blkB HP1.out
  have HE := Lib.hid (addFt_fork (pb := pb) (pe := pe) (k := k) HCT.out HSX.out)
  have hyn : y < n := by have := HCL.out x _ HSX.out y (by simp [St.to]); have := HN.out; omega
  have hzn : z < n := by have := HCL.out x _ HSX.out z (by simp [St.to]); have := HN.out; omega
  have hun : unm n (L ++ [x]) < k := by have := HUN.out; omega
  have hadd := addF_any HCL.out pb pe k y (L ++ [x]) (by rw [← HN.out]; exact hun) (by rw [← HN.out]; exact hyn)
  have hun2 : unm n (addF g pb pe k y (L ++ [x])) < k := by have h1 := hadd.unm; rw [← HN.out] at h1; omega
  have HPR2 := Lib.hid (HPR.out.trans hadd.pre)
  clear hadd
  go_upto_region 5 with fail
  have t5 : W1.drew.cell? ⟨g0, x * 7 + 5, none⟩ = some (.int .i64 (y : Nat)) := s5
  have t6 : W1.drew.cell? ⟨w.heap.size, 0, none⟩ = some (.bool pb) := p5
  have t7 : W1.drew.cell? ⟨w.heap.size, 1, none⟩ = some (.bool pe) := p6
  have tz : w.heap.size < W1.drew.heap.size := pz
  have tg : g0 < W1.drew.heap.size := hg0l
  have HA := Lib.hid (HCALL.out W1.drew (L ++ [x]) vA1 y (HC1.out.trans (ChSm.below (Below.refl _ _).drew hB1)) (HG1.out.below (Below.refl _ _).drew) (HK1.out.below (Below.refl _ _).drew) (HS1.out.below (Below.refl _ _).drew) HPR.out hun (by omega))
  clear s0 s5 s6 p5 p6 pz hg0l
  refine Reg.wp_region_sto (fun L' u X => if L' 7 = true then RchQ B rb gb n gen vb f S vC A0 C (addF g pb pe k y (L ++ [x])) W1.drew (.returned (.tuple #[])) X else X = W1.drew) (fun j => ([some (.pointer (some ⟨gb, 0, none⟩)), some (.pointer (some ⟨g0, x * 7, none⟩)), some (.pointer (some ⟨g0, x * 7, none⟩)), some (.pointer (some ⟨g0, x * 7 + 5, none⟩)), some (.int .i64 (y : Nat)), some (.agg #[.bool pb, .bool pe]), some (.func (Fn.func 43) #[] #[.pointer (some ⟨b4, 0, none⟩), .pointer (some ⟨b6, 0, none⟩)]), some (.tuple #[])] : List (Option Value)).getD j none) (by kernel_rfl) (by kernel_rfl) (by kernel_rfl) (by kernel_rfl) ?rs0 ?rsE ?rsZ
  case rs0 => (rw [if_neg (by decide)]; rfl)
  case rsE =>
   refine Reg.EachG.plain rfl (fun L' u T X hL hz hS hk K hK => ?_) ?_
   ·skip
    have g0 := hk.old 0 (by kernel_rfl) rfl
    have hS0 := hS
    rw [hz 7 (by kernel_rfl), if_neg (by decide)] at hS0
    have hK := hK _ X (by rw [Reg.upd_ne _ _ (by decide)]; exact hS) (fun _ hx => Option.some.inj hx)
    subst hS0
    clear hk hz hL hS
    go_simp
    exact hK
   refine Reg.EachG.plain rfl (fun L' u T X hL hz hS hk K hK => ?_) ?_
   ·skip
    have g8 := hk.old 8 (by kernel_rfl) rfl
    have hS0 := hS
    rw [hz 7 (by kernel_rfl), if_neg (by decide)] at hS0
    have hK := hK _ X (by rw [Reg.upd_ne _ _ (by decide)]; exact hS) (fun _ hx => Option.some.inj hx)
    subst hS0
    clear hk hz hL hS
    go_simp
    exact hK
   refine Reg.EachG.plain rfl (fun L' u T X hL hz hS hk K hK => ?_) ?_
   ·skip
    have g26 := hk.val 1 26 (by kernel_rfl) (by kernel_rfl) rfl
    have hS0 := hS
    rw [hz 7 (by kernel_rfl), if_neg (by decide)] at hS0
    have hK := hK _ X (by rw [Reg.upd_ne _ _ (by decide)]; exact hS) (fun _ hx => Option.some.inj hx)
    subst hS0
    clear hk hz hL hS
    go_simp
    exact hK
   refine Reg.EachG.plain rfl (fun L' u T X hL hz hS hk K hK => ?_) ?_
   ·skip
    have g27 := hk.val 2 27 (by kernel_rfl) (by kernel_rfl) rfl
    have hS0 := hS
    rw [hz 7 (by kernel_rfl), if_neg (by decide)] at hS0
    have hK := hK _ X (by rw [Reg.upd_ne _ _ (by decide)]; exact hS) (fun _ hx => Option.some.inj hx)
    subst hS0
    clear hk hz hL hS
    go_simp
    exact hK
   refine Reg.EachG.plain rfl (fun L' u T X hL hz hS hk K hK => ?_) ?_
   ·skip
    have g28 := hk.val 3 28 (by kernel_rfl) (by kernel_rfl) rfl
    have hS0 := hS
    rw [hz 7 (by kernel_rfl), if_neg (by decide)] at hS0
    have hK := hK _ X (by rw [Reg.upd_ne _ _ (by decide)]; exact hS) (fun _ hx => Option.some.inj hx)
    subst hS0
    clear hk hz hL hS
    go_simp
    exact hK
   refine Reg.EachG.plain rfl (fun L' u T X hL hz hS hk K hK => ?_) ?_
   ·skip
    have g6 := hk.old 6 (by kernel_rfl) rfl
    have hS0 := hS
    rw [hz 7 (by kernel_rfl), if_neg (by decide)] at hS0
    have hK := hK _ X (by rw [Reg.upd_ne _ _ (by decide)]; exact hS) (fun _ hx => Option.some.inj hx)
    subst hS0
    clear hk hz hL hS
    go_simp
    exact hK
   refine Reg.EachG.plain rfl (fun L' u T X hL hz hS hk K hK => ?_) ?_
   ·skip
    have g3 := hk.old 3 (by kernel_rfl) rfl
    have hS0 := hS
    rw [hz 7 (by kernel_rfl), if_neg (by decide)] at hS0
    have hK := hK _ X (by rw [Reg.upd_ne _ _ (by decide)]; exact hS) (fun _ hx => Option.some.inj hx)
    subst hS0
    clear hk hz hL hS
    go_simp
    exact hK
   refine Reg.EachG.plain rfl (fun L' u T X hL hz hS hk K hK => ?_) ?_
   ·skip
    have g25 := hk.val 0 25 (by kernel_rfl) (by kernel_rfl) rfl
    have g29 := hk.val 4 29 (by kernel_rfl) (by kernel_rfl) rfl
    have g30 := hk.val 5 30 (by kernel_rfl) (by kernel_rfl) rfl
    have g31 := hk.val 6 31 (by kernel_rfl) (by kernel_rfl) rfl
    rw [hL, if_neg (by decide)] at hS
    subst hS
    clear hk hz
    go_simp
    refine HA.out.mono ?_
    rintro r X1 hq
    obtain rfl := hq.1
    exact hK _ X1 (by rw [Reg.upd_same, if_pos rfl]; exact hq) (fun _ hx => Option.some.inj hx)
   exact Reg.EachG.nil
  case rsZ =>
   intro L' u w1 hL hS hI
   have e0 := hI 0 (by decide) _ rfl
   have e1 := hI 1 (by decide) _ rfl
   have e2 := hI 2 (by decide) _ rfl
   have e3 := hI 3 (by decide) _ rfl
   have e4 := hI 4 (by decide) _ rfl
   have e5 := hI 5 (by decide) _ rfl
   have e6 := hI 6 (by decide) _ rfl
   have e7 := hI 7 (by decide) _ rfl
   clear hI
   simp only [Reg.putAll, Act.put, List.setIfInBounds_toArray, List.set_cons_succ, List.set_cons_zero, Nat.zero_add, Nat.reduceAdd, e0, e1, e2, e3, e4, e5, e6, e7]
   clear e0 e1 e2 e3 e4 e5 e6 e7
   rw [hL 7 (by decide), if_pos rfl] at hS
   obtain ⟨_, v2, hs2, hc2⟩ := hS
   have hd2 : ChSm B w w1 := HC1.out.trans ((ChSm.below (Below.refl _ _).drew hB1).trans hc2)
   have hg02 := hc2.blk (i := g0) (w := W1.drew) HG0.out (by decide) (by decide)
   have hp12 := hc2.blk (w := W1.drew) HP1.out (by decide) (by decide)
   have HS2 := Lib.hid hs2
   have HC2 := Lib.hid hd2
   have HG2 := Lib.hid ((HG1.out.below (Below.refl _ _).drew).chSm hc2)
   have HK2 := Lib.hid ((HK1.out.below (Below.refl _ _).drew).chSm hc2)
   have hB2 : B ≤ w1.heap.size := Nat.le_trans hB hd2.bel.size
   have t6' : w1.cell? ⟨g0, x * 7 + 6, none⟩ = some (.int .i64 (z : Nat)) := (Lib.cell_of_heap hg02 (x * 7 + 6)).trans (HGP.out 6 _ rfl)
   have q6 : w1.cell? ⟨w.heap.size, 0, none⟩ = some (.bool pb) := (Lib.cell_of_heap hp12 0).trans rfl
   have q7 : w1.cell? ⟨w.heap.size, 1, none⟩ = some (.bool pe) := (Lib.cell_of_heap hp12 1).trans rfl
   have qz : w.heap.size < w1.heap.size := lt_blkB hp12
   have qg : g0 < w1.heap.size := lt_blkB hg02
   clear hs2 hc2 hd2 hg02 hp12 hL u L' t5 t6 t7 tz tg HA
   go_upto_region 6 with fail
   have t5 : w1.drew.cell? ⟨g0, x * 7 + 6, none⟩ = some (.int .i64 (z : Nat)) := t6'
   have t6 : w1.drew.cell? ⟨w.heap.size, 0, none⟩ = some (.bool pb) := q6
   have t7 : w1.drew.cell? ⟨w.heap.size, 1, none⟩ = some (.bool pe) := q7
   have tz : w.heap.size < w1.drew.heap.size := qz
   have tg : g0 < w1.drew.heap.size := qg
   have HA := Lib.hid (HCALL.out w1.drew (addF g pb pe k y (L ++ [x])) v2 z (HC2.out.trans (ChSm.below (Below.refl _ _).drew hB2)) (HG2.out.below (Below.refl _ _).drew) (HK2.out.below (Below.refl _ _).drew) (HS2.out.below (Below.refl _ _).drew) HPR2.out hun2 (by omega))
   clear t6' q6 q7 qz qg
   refine Reg.wp_region_sto (fun L' u X => if L' 7 = true then RchQ B rb gb n gen vb f S vC A0 C (addF g pb pe k z (addF g pb pe k y (L ++ [x]))) w1.drew (.returned (.tuple #[])) X else X = w1.drew) (fun j => ([some (.pointer (some ⟨gb, 0, none⟩)), some (.pointer (some ⟨g0, x * 7, none⟩)), some (.pointer (some ⟨g0, x * 7, none⟩)), some (.pointer (some ⟨g0, x * 7 + 6, none⟩)), some (.int .i64 (z : Nat)), some (.agg #[.bool pb, .bool pe]), some (.func (Fn.func 43) #[] #[.pointer (some ⟨b4, 0, none⟩), .pointer (some ⟨b6, 0, none⟩)]), some (.tuple #[])] : List (Option Value)).getD j none) (by kernel_rfl) (by kernel_rfl) (by kernel_rfl) (by kernel_rfl) ?rs0 ?rsE ?rsZ
   case rs0 => (rw [if_neg (by decide)]; rfl)
   case rsE =>
    refine Reg.EachG.plain rfl (fun L' u T X hL hz hS hk K hK => ?_) ?_
    ·skip
     have g0 := hk.old 0 (by kernel_rfl) rfl
     have hS0 := hS
     rw [hz 7 (by kernel_rfl), if_neg (by decide)] at hS0
     have hK := hK _ X (by rw [Reg.upd_ne _ _ (by decide)]; exact hS) (fun _ hx => Option.some.inj hx)
     subst hS0
     clear hk hz hL hS
     go_simp
     exact hK
    refine Reg.EachG.plain rfl (fun L' u T X hL hz hS hk K hK => ?_) ?_
    ·skip
     have g8 := hk.old 8 (by kernel_rfl) rfl
     have hS0 := hS
     rw [hz 7 (by kernel_rfl), if_neg (by decide)] at hS0
     have hK := hK _ X (by rw [Reg.upd_ne _ _ (by decide)]; exact hS) (fun _ hx => Option.some.inj hx)
     subst hS0
     clear hk hz hL hS
     go_simp
     exact hK
    refine Reg.EachG.plain rfl (fun L' u T X hL hz hS hk K hK => ?_) ?_
    ·skip
     have g34 := hk.val 1 34 (by kernel_rfl) (by kernel_rfl) rfl
     have hS0 := hS
     rw [hz 7 (by kernel_rfl), if_neg (by decide)] at hS0
     have hK := hK _ X (by rw [Reg.upd_ne _ _ (by decide)]; exact hS) (fun _ hx => Option.some.inj hx)
     subst hS0
     clear hk hz hL hS
     go_simp
     exact hK
    refine Reg.EachG.plain rfl (fun L' u T X hL hz hS hk K hK => ?_) ?_
    ·skip
     have g35 := hk.val 2 35 (by kernel_rfl) (by kernel_rfl) rfl
     have hS0 := hS
     rw [hz 7 (by kernel_rfl), if_neg (by decide)] at hS0
     have hK := hK _ X (by rw [Reg.upd_ne _ _ (by decide)]; exact hS) (fun _ hx => Option.some.inj hx)
     subst hS0
     clear hk hz hL hS
     go_simp
     exact hK
    refine Reg.EachG.plain rfl (fun L' u T X hL hz hS hk K hK => ?_) ?_
    ·skip
     have g36 := hk.val 3 36 (by kernel_rfl) (by kernel_rfl) rfl
     have hS0 := hS
     rw [hz 7 (by kernel_rfl), if_neg (by decide)] at hS0
     have hK := hK _ X (by rw [Reg.upd_ne _ _ (by decide)]; exact hS) (fun _ hx => Option.some.inj hx)
     subst hS0
     clear hk hz hL hS
     go_simp
     exact hK
    refine Reg.EachG.plain rfl (fun L' u T X hL hz hS hk K hK => ?_) ?_
    ·skip
     have g6 := hk.old 6 (by kernel_rfl) rfl
     have hS0 := hS
     rw [hz 7 (by kernel_rfl), if_neg (by decide)] at hS0
     have hK := hK _ X (by rw [Reg.upd_ne _ _ (by decide)]; exact hS) (fun _ hx => Option.some.inj hx)
     subst hS0
     clear hk hz hL hS
     go_simp
     exact hK
    refine Reg.EachG.plain rfl (fun L' u T X hL hz hS hk K hK => ?_) ?_
    ·skip
     have g3 := hk.old 3 (by kernel_rfl) rfl
     have hS0 := hS
     rw [hz 7 (by kernel_rfl), if_neg (by decide)] at hS0
     have hK := hK _ X (by rw [Reg.upd_ne _ _ (by decide)]; exact hS) (fun _ hx => Option.some.inj hx)
     subst hS0
     clear hk hz hL hS
     go_simp
     exact hK
    refine Reg.EachG.plain rfl (fun L' u T X hL hz hS hk K hK => ?_) ?_
    ·skip
     have g33 := hk.val 0 33 (by kernel_rfl) (by kernel_rfl) rfl
     have g37 := hk.val 4 37 (by kernel_rfl) (by kernel_rfl) rfl
     have g38 := hk.val 5 38 (by kernel_rfl) (by kernel_rfl) rfl
     have g39 := hk.val 6 39 (by kernel_rfl) (by kernel_rfl) rfl
     rw [hL, if_neg (by decide)] at hS
     subst hS
     clear hk hz
     go_simp
     refine HA.out.mono ?_
     rintro r X1 hq
     obtain rfl := hq.1
     exact hK _ X1 (by rw [Reg.upd_same, if_pos rfl]; exact hq) (fun _ hx => Option.some.inj hx)
    exact Reg.EachG.nil
   case rsZ =>
    intro L' u w1 hL hS hI
    have e0 := hI 0 (by decide) _ rfl
    have e1 := hI 1 (by decide) _ rfl
    have e2 := hI 2 (by decide) _ rfl
    have e3 := hI 3 (by decide) _ rfl
    have e4 := hI 4 (by decide) _ rfl
    have e5 := hI 5 (by decide) _ rfl
    have e6 := hI 6 (by decide) _ rfl
    have e7 := hI 7 (by decide) _ rfl
    clear hI
    simp only [Reg.putAll, Act.put, List.setIfInBounds_toArray, List.set_cons_succ, List.set_cons_zero, Nat.zero_add, Nat.reduceAdd, e0, e1, e2, e3, e4, e5, e6, e7]
    clear e0 e1 e2 e3 e4 e5 e6 e7
    rw [hL 7 (by decide), if_pos rfl] at hS
    obtain ⟨_, v2, hs2, hc2⟩ := hS
    have HS3 := Lib.hid hs2
    have HC3 := Lib.hid (HC2.out.trans ((ChSm.below (Below.refl _ _).drew hB2).trans hc2))
    clear hs2 hc2 hL u L'
    go_wp2
    go_end0
    rw [HE.out]
    first | exact ⟨rfl, v2, HS3.out, HC3.out⟩ | exact ⟨rfl, ⟨v2, HS3.out⟩, HC3.out⟩
theorem reach_all : ∀ k, ReachC k
 | 0 => fun B B' gb st rb n gen vb f b4 b6 S g A0 C L vA vC x pb pe w _ _ _ _ _ _ _ _ hu => by omega
 | k + 1 => reach_step k (reach_all k)
def EntQ (B rb gb n gen vb : Nat) (S vC : Value) (T C : Th) (w : World) (r : Ending) (w' : World) : Prop := r = .returned (.tuple #[]) ∧ ∃ vA', RunB true B rb gb n S gen (vb + T.length) T C vA' vC w' ∧ ChSm B w w'
theorem tagT_len {A0 : Th} {f : Nat} {L : List Nat} (h : A0.map Prod.fst <+: L) : (tagT A0 f L).length = L.length := by
 rw [← tagT_fst (f := f) h, List.length_map, tagT_fst h]
set_option maxHeartbeats 16000000 in
theorem senter_any (B B' gb st rb n gen vb N x f i : Nat) (sa : Option Addr) (sc : Nat) (g : List St) (A C : Th) (vA vC : Value) (w : World) (hn : n = g.length) (hcl : ClG g) (hg : GrAt B' gb g st w) (h : RunB true B rb gb n (.slice sa N sc) gen (vb + A.length) A C vA vC w) (hB : B ≤ w.heap.size) (hvb : vb ≤ 4611686018427300000) (hx : x < n) :
  Calls Tryz.prog 28 #[.pointer (some ⟨rb, 0, none⟩), .int .i64 (x : Nat), .int .i64 (f : Nat), .int .i64 (i : Nat)] w (EntQ B rb gb n gen vb (.slice sa N sc) vC (entT g (decide (i = 0)) (decide (i = N)) x f A) C w) := by
 obtain ⟨W, hW⟩ : ∃ W, W = (w.alloc (.cells #[.pointer (some ⟨rb, 0, none⟩)] 43)).alloc (.cells #[.int .i64 (f : Nat)] 3) := ⟨_, rfl⟩
 have hb : Below w.heap.size w W.drew := by rw [hW]; exact (((Below.refl _ _).alloc (Nat.le_refl _) _).alloc (by simp) _).drew
 have HK : Hid (CapS w.heap.size (w.heap.size + 1) rb f W.drew) := Lib.hid ⟨by rw [hW]; exact blk_alloc (alloc_last w _) _, by
  rw [hW]
  have := alloc_last (w.alloc (.cells #[.pointer (some ⟨rb, 0, none⟩)] 43)) (.cells #[.int .i64 (f : Nat)] 3)
  rw [World.size_alloc] at this
  exact this⟩
 have hfst : (A.map Prod.fst).length = A.length := List.length_map _
 have HR : Hid (RunB true B rb gb n (.slice sa N sc) gen (vb + (A.map Prod.fst).length) (tagT A f (A.map Prod.fst)) C vA vC W.drew) := Lib.hid (by rw [hfst, tagT_self]; exact h.below hb)
 have HG := Lib.hid (hg.below hb)
 have HWE := Lib.hid hW
 have HBW : Hid (Below w.heap.size w W.drew) := Lib.hid hb
 have HPL := fun X => Lib.hid (place_of i N X)
 have hadd := fun pb pe => addF_any hcl pb pe (n + 1) x (A.map Prod.fst) (by have := unm_le n (A.map Prod.fst); rw [← hn]; omega) (by rw [← hn]; exact hx)
 have HT : Hid (∀ pb pe, tagT A f (addF g pb pe (n + 1) x (A.map Prod.fst)) = entT g pb pe x f A ∧ (addF g pb pe (n + 1) x (A.map Prod.fst)).length = (entT g pb pe x f A).length) := Lib.hid (fun pb pe => by
  have e : tagT A f (addF g pb pe (n + 1) x (A.map Prod.fst)) = entT g pb pe x f A := by rw [hn]; exact entT_tag g pb pe x f A
  exact ⟨e, by rw [← e, tagT_len (hadd pb pe).pre]⟩)
 have HRE : Hid (∀ (pb pe : Bool) X, Below W.drew.heap.size W.drew X → Calls Tryz.prog 41 #[.pointer (some ⟨gb, 0, none⟩), .int .i64 (x : Nat), .agg #[.bool pb, .bool pe], .func (Fn.func 43) #[] #[.pointer (some ⟨w.heap.size, 0, none⟩), .pointer (some ⟨w.heap.size + 1, 0, none⟩)]] X (RchQ B rb gb n gen vb f (.slice sa N sc) vC A C (addF g pb pe (n + 1) x (A.map Prod.fst)) X)) := Lib.hid (fun pb pe X hX =>
  reach_all (n + 1) B B' gb st rb n gen vb f w.heap.size (w.heap.size + 1) (.slice sa N sc) g A C (A.map Prod.fst) vA vC x pb pe X hn hcl (HG.out.below hX) (HK.out.below hX) (HR.out.below hX) (List.prefix_refl _) (Nat.le_trans hB (Nat.le_trans hb.size hX.size)) hvb (by have := unm_le n (A.map Prod.fst); omega) hx)
 clear hW hb h hg hcl hfst hadd hn
 generalize decide (i = 0) = pb at *
 generalize decide (i = N) = pe at *
 have HRX := Lib.hid (HRE.out pb pe)
 unfold EntQ
 clear HRE HG
 go_enter Tryz.func28, Tryz.ntmps28
 go_upto_region 1 with fail
 rw [← HWE.out]
 refine Reg.wp_region_sto (fun L u X => if L 13 = true then RchQ B rb gb n gen vb f (.slice sa N sc) vC A C (addF g pb pe (n + 1) x (A.map Prod.fst)) W.drew (.returned (.tuple #[])) X else Below W.drew.heap.size W.drew X) (fun j => ([some (.pointer (some ⟨rb, 0, none⟩)), some (.pointer (some ⟨rb, 0, none⟩)), some (.pointer (some ⟨rb, 0, none⟩)), some (.pointer (some ⟨gb, 0, none⟩)), some (.int .i64 (x : Nat)), some (.int .i64 (i : Nat)), some (.pointer (some ⟨rb, 0, none⟩)), some (.pointer (some ⟨rb, 0, none⟩)), some (.pointer (some ⟨rb, 1, none⟩)), some (.slice sa N sc), some (.int .i64 (N : Nat)), some (.agg #[.bool pb, .bool pe]), some (.func (Fn.func 43) #[] #[.pointer (some ⟨w.heap.size, 0, none⟩), .pointer (some ⟨w.heap.size + 1, 0, none⟩)]), some (.tuple #[])] : List (Option Value)).getD j none) (by kernel_rfl) (by kernel_rfl) (by kernel_rfl) (by kernel_rfl) ?rs0 ?rsE ?rsZ
 case rs0 => (rw [if_neg (by decide)]; exact Below.refl _ _)
 case rsE =>
  refine Reg.EachG.plain rfl (fun L u T X hL hz hS hk K hK => ?_) ?_
  ·skip
   have g4 := hk.old 4 (by kernel_rfl) rfl
   have hX := hS
   rw [hz 13 (by kernel_rfl), if_neg (by decide)] at hX
   have hK := hK _ X (by rw [Reg.upd_ne _ _ (by decide)]; exact hS) (fun _ hx => Option.some.inj hx)
   obtain ⟨k4, k6, z4, z6⟩ := (HK.out.below hX).cells
   obtain ⟨c0, c1, _, _, _, _, cz, _⟩ := (HR.out.below hX).cells
   clear hk hz hL hS hX
   go_simp
   exact hK
  refine Reg.EachG.plain rfl (fun L u T X hL hz hS hk K hK => ?_) ?_
  ·skip
   have g8 := hk.val 0 8 (by kernel_rfl) (by kernel_rfl) rfl
   have hX := hS
   rw [hz 13 (by kernel_rfl), if_neg (by decide)] at hX
   have hK := hK _ X (by rw [Reg.upd_ne _ _ (by decide)]; exact hS) (fun _ hx => Option.some.inj hx)
   obtain ⟨k4, k6, z4, z6⟩ := (HK.out.below hX).cells
   obtain ⟨c0, c1, _, _, _, _, cz, _⟩ := (HR.out.below hX).cells
   clear hk hz hL hS hX
   go_simp
   exact hK
  refine Reg.EachG.plain rfl (fun L u T X hL hz hS hk K hK => ?_) ?_
  ·skip
   have g9 := hk.val 1 9 (by kernel_rfl) (by kernel_rfl) rfl
   have hX := hS
   rw [hz 13 (by kernel_rfl), if_neg (by decide)] at hX
   have hK := hK _ X (by rw [Reg.upd_ne _ _ (by decide)]; exact hS) (fun _ hx => Option.some.inj hx)
   obtain ⟨k4, k6, z4, z6⟩ := (HK.out.below hX).cells
   obtain ⟨c0, c1, _, _, _, _, cz, _⟩ := (HR.out.below hX).cells
   clear hk hz hL hS hX
   go_simp
   exact hK
  refine Reg.EachG.plain rfl (fun L u T X hL hz hS hk K hK => ?_) ?_
  ·skip
   have g10 := hk.val 2 10 (by kernel_rfl) (by kernel_rfl) rfl
   have hX := hS
   rw [hz 13 (by kernel_rfl), if_neg (by decide)] at hX
   have hK := hK _ X (by rw [Reg.upd_ne _ _ (by decide)]; exact hS) (fun _ hx => Option.some.inj hx)
   obtain ⟨k4, k6, z4, z6⟩ := (HK.out.below hX).cells
   obtain ⟨c0, c1, _, _, _, _, cz, _⟩ := (HR.out.below hX).cells
   clear hk hz hL hS hX
   go_simp
   exact hK
  refine Reg.EachG.plain rfl (fun L u T X hL hz hS hk K hK => ?_) ?_
  ·skip
   have g1 := hk.old 1 (by kernel_rfl) rfl
   have hX := hS
   rw [hz 13 (by kernel_rfl), if_neg (by decide)] at hX
   have hK := hK _ X (by rw [Reg.upd_ne _ _ (by decide)]; exact hS) (fun _ hx => Option.some.inj hx)
   obtain ⟨k4, k6, z4, z6⟩ := (HK.out.below hX).cells
   obtain ⟨c0, c1, _, _, _, _, cz, _⟩ := (HR.out.below hX).cells
   clear hk hz hL hS hX
   go_simp
   exact hK
  refine Reg.EachG.plain rfl (fun L u T X hL hz hS hk K hK => ?_) ?_
  ·skip
   have g3 := hk.old 3 (by kernel_rfl) rfl
   have hX := hS
   rw [hz 13 (by kernel_rfl), if_neg (by decide)] at hX
   have hK := hK _ X (by rw [Reg.upd_ne _ _ (by decide)]; exact hS) (fun _ hx => Option.some.inj hx)
   obtain ⟨k4, k6, z4, z6⟩ := (HK.out.below hX).cells
   obtain ⟨c0, c1, _, _, _, _, cz, _⟩ := (HR.out.below hX).cells
   clear hk hz hL hS hX
   go_simp
   exact hK
  refine Reg.EachG.plain rfl (fun L u T X hL hz hS hk K hK => ?_) ?_
  ·skip
   have g4 := hk.old 4 (by kernel_rfl) rfl
   have hX := hS
   rw [hz 13 (by kernel_rfl), if_neg (by decide)] at hX
   have hK := hK _ X (by rw [Reg.upd_ne _ _ (by decide)]; exact hS) (fun _ hx => Option.some.inj hx)
   obtain ⟨k4, k6, z4, z6⟩ := (HK.out.below hX).cells
   obtain ⟨c0, c1, _, _, _, _, cz, _⟩ := (HR.out.below hX).cells
   clear hk hz hL hS hX
   go_simp
   exact hK
  refine Reg.EachG.plain rfl (fun L u T X hL hz hS hk K hK => ?_) ?_
  ·skip
   have g14 := hk.val 6 14 (by kernel_rfl) (by kernel_rfl) rfl
   have hX := hS
   rw [hz 13 (by kernel_rfl), if_neg (by decide)] at hX
   have hK := hK _ X (by rw [Reg.upd_ne _ _ (by decide)]; exact hS) (fun _ hx => Option.some.inj hx)
   obtain ⟨k4, k6, z4, z6⟩ := (HK.out.below hX).cells
   obtain ⟨c0, c1, _, _, _, _, cz, _⟩ := (HR.out.below hX).cells
   clear hk hz hL hS hX
   go_simp
   exact hK
  refine Reg.EachG.plain rfl (fun L u T X hL hz hS hk K hK => ?_) ?_
  ·skip
   have g15 := hk.val 7 15 (by kernel_rfl) (by kernel_rfl) rfl
   have hX := hS
   rw [hz 13 (by kernel_rfl), if_neg (by decide)] at hX
   have hK := hK _ X (by rw [Reg.upd_ne _ _ (by decide)]; exact hS) (fun _ hx => Option.some.inj hx)
   obtain ⟨k4, k6, z4, z6⟩ := (HK.out.below hX).cells
   obtain ⟨c0, c1, _, _, _, _, cz, _⟩ := (HR.out.below hX).cells
   clear hk hz hL hS hX
   go_simp
   exact hK
  refine Reg.EachG.plain rfl (fun L u T X hL hz hS hk K hK => ?_) ?_
  ·skip
   have g16 := hk.val 8 16 (by kernel_rfl) (by kernel_rfl) rfl
   have hX := hS
   rw [hz 13 (by kernel_rfl), if_neg (by decide)] at hX
   have hK := hK _ X (by rw [Reg.upd_ne _ _ (by decide)]; exact hS) (fun _ hx => Option.some.inj hx)
   obtain ⟨k4, k6, z4, z6⟩ := (HK.out.below hX).cells
   obtain ⟨c0, c1, _, _, _, _, cz, _⟩ := (HR.out.below hX).cells
   clear hk hz hL hS hX
   go_simp
   exact hK
  refine Reg.EachG.plain rfl (fun L u T X hL hz hS hk K hK => ?_) ?_
  ·skip
   have g17 := hk.val 9 17 (by kernel_rfl) (by kernel_rfl) rfl
   have hX := hS
   rw [hz 13 (by kernel_rfl), if_neg (by decide)] at hX
   have hK := hK _ X (by rw [Reg.upd_ne _ _ (by decide)]; exact hS) (fun _ hx => Option.some.inj hx)
   obtain ⟨k4, k6, z4, z6⟩ := (HK.out.below hX).cells
   obtain ⟨c0, c1, _, _, _, _, cz, _⟩ := (HR.out.below hX).cells
   clear hk hz hL hS hX
   go_simp
   exact hK
  refine Reg.EachG.plain rfl (fun L u T X hL hz hS hk K hK => ?_) ?_
  ·skip
   have g13 := hk.val 5 13 (by kernel_rfl) (by kernel_rfl) rfl
   have g18 := hk.val 10 18 (by kernel_rfl) (by kernel_rfl) rfl
   have hX := hS
   rw [hz 13 (by kernel_rfl), if_neg (by decide)] at hX
   have hd13 : L 13 = false := hz 13 (by kernel_rfl)
   clear hk hz hL hS
   go_simp
   refine (HPL X).out.mono ?_
   rintro r X1 ⟨rfl, hb1⟩
   exact hK _ X1 (by rw [Reg.upd_ne _ _ (by decide), if_neg (by rw [hd13]; decide)]; exact hX.trans (hb1.mono hX.size)) (fun _ hx => Option.some.inj hx)
  refine Reg.EachG.plain rfl (fun L u T X hL hz hS hk K hK => ?_) ?_
  ·skip
   have g4 := hk.old 4 (by kernel_rfl) rfl
   have g6 := hk.old 6 (by kernel_rfl) rfl
   have hX := hS
   rw [hz 13 (by kernel_rfl), if_neg (by decide)] at hX
   have hK := hK _ X (by rw [Reg.upd_ne _ _ (by decide)]; exact hS) (fun _ hx => Option.some.inj hx)
   obtain ⟨k4, k6, z4, z6⟩ := (HK.out.below hX).cells
   obtain ⟨c0, c1, _, _, _, _, cz, _⟩ := (HR.out.below hX).cells
   clear hk hz hL hS hX
   go_simp
   exact hK
  refine Reg.EachG.plain rfl (fun L u T X hL hz hS hk K hK => ?_) ?_
  ·skip
   have g11 := hk.val 3 11 (by kernel_rfl) (by kernel_rfl) rfl
   have g12 := hk.val 4 12 (by kernel_rfl) (by kernel_rfl) rfl
   have g19 := hk.val 11 19 (by kernel_rfl) (by kernel_rfl) rfl
   have g20 := hk.val 12 20 (by kernel_rfl) (by kernel_rfl) rfl
   rw [hL, if_neg (by decide)] at hS
   have hc := HRX.out X hS
   clear hk hz
   go_simp
   refine hc.mono ?_
   rintro r X1 ⟨rfl, v', h1, h2⟩
   exact hK _ X1 (by rw [Reg.upd_same, if_pos rfl]; exact ⟨rfl, v', h1, (ChSm.below hS (Nat.le_trans hB HBW.out.size)).trans h2⟩) (fun _ hx => Option.some.inj hx)
  exact Reg.EachG.nil
 case rsZ =>
  intro L u w1 hL hS hI
  have e0 := hI 0 (by decide) _ rfl
  have e1 := hI 1 (by decide) _ rfl
  have e2 := hI 2 (by decide) _ rfl
  have e3 := hI 3 (by decide) _ rfl
  have e4 := hI 4 (by decide) _ rfl
  have e5 := hI 5 (by decide) _ rfl
  have e6 := hI 6 (by decide) _ rfl
  have e7 := hI 7 (by decide) _ rfl
  have e8 := hI 8 (by decide) _ rfl
  have e9 := hI 9 (by decide) _ rfl
  have e10 := hI 10 (by decide) _ rfl
  have e11 := hI 11 (by decide) _ rfl
  have e12 := hI 12 (by decide) _ rfl
  have e13 := hI 13 (by decide) _ rfl
  clear hI
  simp only [Reg.putAll, Act.put, List.setIfInBounds_toArray, List.set_cons_succ, List.set_cons_zero, Nat.zero_add, Nat.reduceAdd, e0, e1, e2, e3, e4, e5, e6, e7, e8, e9, e10, e11, e12, e13]
  clear e0 e1 e2 e3 e4 e5 e6 e7 e8 e9 e10 e11 e12 e13
  rw [hL 13 (by decide), if_pos rfl] at hS
  obtain ⟨_, v2, hs2, hc2⟩ := hS
  rw [(HT.out pb pe).1, (HT.out pb pe).2] at hs2
  have HS2 := Lib.hid hs2
  have HC2 := Lib.hid ((ChSm.below HBW.out hB).trans hc2)
  clear hs2 hc2 hL u L
  go_wp2
  go_end0
  first | exact ⟨rfl, v2, HS2.out, HC2.out⟩ | exact ⟨rfl, ⟨v2, HS2.out⟩, HC2.out⟩
def tkS (s : St) (c : Nat) : Nat × Bool :=
 match s with
 | .eat p y => if p c then (y, true) else (0, false)
 | _ => (0, false)
set_option maxHeartbeats 8000000 in
theorem gtake_any (B' gb st x c : Nat) (g : List St) (s : St) (w : World) (hg : GrAt B' gb g st w) (hx : g[x]? = some s) (hc : c < 256) :
  Calls Tryz.prog 44 #[.pointer (some ⟨gb, 0, none⟩), .int .i64 (x : Nat), .int .u8 (c : Nat)] w fun r w' => r = .returned (.tuple #[.int .i64 ((tkS s c).1 : Nat), .bool (tkS s c).2]) ∧ Below w.heap.size w w' := by
 obtain ⟨g0, cap, cur, hgc, hgl, hg0, hgp⟩ := hg.at hx
 have hxl : x < g.length := (List.getElem?_eq_some_iff.1 hx).1
 have hxg : (x : Int) < (g.length : Int) := by omega
 have hx0 : (0 : Int) ≤ (x : Int) := by omega
 have hg0l := lt_blkB hg0
 have HB : Hid (Below w.heap.size w w) := Lib.hid (Below.refl _ _)
 clear hg hx
 cases s with
 | eat p y =>
  have s0 : w.cell? ⟨g0, x * 7, none⟩ = some (.int .i64 1) := (Lib.cell_of_heap hg0 (x * 7)).trans (hgp 0 _ rfl)
  have s1 : w.cell? ⟨g0, x * 7 + 1, none⟩ = some (.int .u64 (sw p 0 : Nat)) := (Lib.cell_of_heap hg0 (x * 7 + 1)).trans (hgp 1 _ rfl)
  have s2 : w.cell? ⟨g0, x * 7 + 1 + 1, none⟩ = some (.int .u64 (sw p 1 : Nat)) := (Lib.cell_of_heap hg0 (x * 7 + 2)).trans (hgp 2 _ rfl)
  have s3 : w.cell? ⟨g0, x * 7 + 1 + 2, none⟩ = some (.int .u64 (sw p 2 : Nat)) := (Lib.cell_of_heap hg0 (x * 7 + 3)).trans (hgp 3 _ rfl)
  have s4 : w.cell? ⟨g0, x * 7 + 1 + 3, none⟩ = some (.int .u64 (sw p 3 : Nat)) := (Lib.cell_of_heap hg0 (x * 7 + 4)).trans (hgp 4 _ rfl)
  have s5 : w.cell? ⟨g0, x * 7 + 5, none⟩ = some (.int .i64 (y : Nat)) := (Lib.cell_of_heap hg0 (x * 7 + 5)).trans (hgp 5 _ rfl)
  have HG0 := Lib.hid hg0
  have HGP := Lib.hid hgp
  have HH := Lib.hid (has_any p c hc w)
  have HT : Hid (tkS (.eat p y) c = if p c then (y, true) else (0, false)) := Lib.hid rfl
  unfold SV at HH
  rw [HT.out]
  clear HT
  generalize p c = pc at *
  cases pc with
  | true =>
   clear hg0 hgp
   go_enter Tryz.func44, Tryz.ntmps44
   go_wp2_with fail
   refine HH.out.mono ?_
   rintro r w1 ⟨rfl, hb⟩
   have HB1 := Lib.hid hb
   have hg01 := blk_below HG0.out hb
   have t5 : w1.cell? ⟨g0, x * 7 + 5, none⟩ = some (.int .i64 (y : Nat)) := (Lib.cell_of_heap hg01 (x * 7 + 5)).trans (HGP.out 5 _ rfl)
   have tz := lt_blkB hg01
   clear hb hg01
   go_wp2_with fail
   go_ret2
   exact ⟨rfl, HB1.out⟩
  | false =>
   clear hg0 hgp
   go_enter Tryz.func44, Tryz.ntmps44
   go_wp2_with fail
   refine HH.out.mono ?_
   rintro r w1 ⟨rfl, hb⟩
   have HB1 := Lib.hid hb
   clear hb
   go_wp2_with fail
   go_ret2
   exact ⟨rfl, HB1.out⟩
 | acc =>
  have s0 : w.cell? ⟨g0, x * 7, none⟩ = some (.int .i64 0) := (Lib.cell_of_heap hg0 (x * 7)).trans (hgp 0 _ rfl)
  have HT : Hid (tkS (St.acc) c = (0, false)) := Lib.hid rfl
  rw [HT.out]
  clear hg0 hgp HT
  go_enter Tryz.func44, Tryz.ntmps44
  go_wp2
  go_ret2
  exact ⟨rfl, HB.out⟩
 | beg y =>
  have s0 : w.cell? ⟨g0, x * 7, none⟩ = some (.int .i64 2) := (Lib.cell_of_heap hg0 (x * 7)).trans (hgp 0 _ rfl)
  have HT : Hid (tkS (St.beg y) c = (0, false)) := Lib.hid rfl
  rw [HT.out]
  clear hg0 hgp HT
  go_enter Tryz.func44, Tryz.ntmps44
  go_wp2
  go_ret2
  exact ⟨rfl, HB.out⟩
 | fin y =>
  have s0 : w.cell? ⟨g0, x * 7, none⟩ = some (.int .i64 3) := (Lib.cell_of_heap hg0 (x * 7)).trans (hgp 0 _ rfl)
  have HT : Hid (tkS (St.fin y) c = (0, false)) := Lib.hid rfl
  rw [HT.out]
  clear hg0 hgp HT
  go_enter Tryz.func44, Tryz.ntmps44
  go_wp2
  go_ret2
  exact ⟨rfl, HB.out⟩
 | fork y z =>
  have s0 : w.cell? ⟨g0, x * 7, none⟩ = some (.int .i64 4) := (Lib.cell_of_heap hg0 (x * 7)).trans (hgp 0 _ rfl)
  have HT : Hid (tkS (St.fork y z) c = (0, false)) := Lib.hid rfl
  rw [HT.out]
  clear hg0 hgp HT
  go_enter Tryz.func44, Tryz.ntmps44
  go_wp2
  go_ret2
  exact ⟨rfl, HB.out⟩
theorem eatT_tk {G : List St} {n i : Nat} {c : Int} {A : Th} {t : Nat × Nat} {s : St} (e : G[t.1]? = some s) : eatT G n i c A t = if (tkS s c.toNat).2 then entT G false (decide (i + 1 = n)) (tkS s c.toNat).1 t.2 A else A := by
 unfold eatT
 rw [e]
 cases s with
 | eat p y =>
  show (if p c.toNat then _ else _) = _
  unfold tkS
  dsimp only
  split <;> rfl
 | _ => rfl
theorem tk_lt {G : List St} (hc : ClG G) {x c : Nat} {s : St} (e : G[x]? = some s) (h : (tkS s c).2 = true) : (tkS s c).1 < G.length := by
 cases s with
 | eat p y =>
  unfold tkS at h ⊢
  dsimp only at h ⊢
  split
  ·exact hc x _ e y (by simp [St.to])
  ·rename_i hp; rw [if_neg hp] at h; cases h
 | _ => cases h
set_option maxHeartbeats 16000000 in
theorem sfollow_any (B B' gb st rb n gen vb N x f i cz : Nat) (sa : Option Addr) (sc : Nat) (g : List St) (A C : Th) (vA vC : Value) (w : World) (hn : n = g.length) (hcl : ClG g) (hg : GrAt B' gb g st w) (h : RunB true B rb gb n (.slice sa N sc) gen (vb + A.length) A C vA vC w) (hB : B ≤ w.heap.size) (hvb : vb ≤ 4611686018427300000) (hx : x < n) (hi : i ≤ N) (hN : N ≤ 1099511627776)
  (hcell : i < N → ∃ lb lo, sa = some ⟨lb, lo, none⟩ ∧ lb < B ∧ w.cell? ⟨lb, lo + i, none⟩ = some (.int .u8 (cz : Nat)) ∧ cz < 256) :
  Calls Tryz.prog 31 #[.pointer (some ⟨rb, 0, none⟩), .agg #[.int .i64 (x : Nat), .int .i64 (f : Nat)], .int .i64 (i : Nat)] w (EntQ B rb gb n gen vb (.slice sa N sc) vC (if i = N then A else eatT g N i (cz : Nat) A (x, f)) C w) := by
 obtain ⟨W, hW⟩ : ∃ W, W = w.alloc (.cells #[.int .i64 (x : Nat), .int .i64 (f : Nat)] 83) := ⟨_, rfl⟩
 have hb : Below w.heap.size w W := by rw [hW]; exact (Below.refl _ _).alloc (Nat.le_refl _) _
 have HTB : Hid (W.heap[w.heap.size]? = some (.cells #[.int .i64 (x : Nat), .int .i64 (f : Nat)] 83 (0, 0))) := Lib.hid (by rw [hW]; exact alloc_last w _)
 have HR := Lib.hid (h.below hb)
 have HG := Lib.hid (hg.below hb)
 have HC : Hid (ChSm B w W) := Lib.hid (ChSm.below hb hB)
 have HWE := Lib.hid hW
 have HN := Lib.hid hn
 have HCL := Lib.hid hcl
 obtain ⟨c0, c1, _, _, _, _, cz0, _⟩ := HR.out.cells
 by_cases hiN : i = N
 ·have HE : Hid ((if i = N then A else eatT g N i (cz : Nat) A (x, f)) = A) := Lib.hid (if_pos hiN)
  rw [HE.out]
  have hii : ((i : Int) == (N : Int)) = true := by simp; omega
  have hii2 : (i : Int) = (N : Int) := by omega
  unfold EntQ
  clear hW hb h hg hcell hn hcl
  go_enter Tryz.func31, Tryz.ntmps31
  go_upto_region 1 with fail
  rw [← HWE.out]
  go_wp2_with fail
  refine bodyPost_ret (results_none rfl _ _ _) rfl ?_
  exact ⟨rfl, vA, HR.out, HC.out⟩
 have hlt : i < N := by omega
 have HE : Hid ((if i = N then A else eatT g N i (cz : Nat) A (x, f)) = eatT g N i (cz : Nat) A (x, f)) := Lib.hid (if_neg hiN)
 rw [HE.out]
 obtain ⟨lb, lo, rfl, hlB, hlc, hc256⟩ := hcell hlt
 obtain ⟨s, hs⟩ : ∃ s, g[x]? = some s := ⟨_, List.getElem?_eq_getElem (by omega)⟩
 have HET : Hid (eatT g N i (cz : Nat) A (x, f) = if (tkS s cz).2 then entT g (decide (i + 1 = 0)) (decide (i + 1 = N)) (tkS s cz).1 f A else A) := Lib.hid (by
  rw [eatT_tk (t := (x, f)) hs, show decide (i + 1 = 0) = false by simp]
  rfl)
 have hlz : lb < W.heap.size := by have := hb.size; omega
 have hlw : W.drew.cell? ⟨lb, lo + i, none⟩ = some (.int .u8 (cz : Nat)) := by
  rw [← hlc]
  exact hb.drew.cell (show (⟨lb, lo + i, none⟩ : Addr).block < w.heap.size by show lb < _; omega)
 have HTK := Lib.hid (gtake_any B' gb st x cz g s W.drew (HG.out.below (Below.refl _ _).drew) hs hc256)
 have hii : ((i : Int) == (N : Int)) = false := by simp; omega
 have hii2 : ¬ (i : Int) = (N : Int) := by omega
 have hi1 : (i : Int) < (N : Int) := by omega
 have hi0 : (0 : Int) ≤ (i : Int) := by omega
 have hBW : B ≤ W.heap.size := Nat.le_trans hB hb.size
 have HEN : Hid (∀ X, (tkS s cz).2 = true → Below W.drew.heap.size W.drew X → Calls Tryz.prog 28 #[.pointer (some ⟨rb, 0, none⟩), .int .i64 ((tkS s cz).1 : Nat), .int .i64 (f : Nat), .int .i64 ((i : Int) + 1)] X (EntQ B rb gb n gen vb (.slice (some ⟨lb, lo, none⟩) N sc) vC (entT g (decide (i + 1 = 0)) (decide (i + 1 = N)) (tkS s cz).1 f A) C X)) := Lib.hid (fun X hk hX => by
  have hb2 : Below W.heap.size W X := (Below.refl W.heap.size W).drew.trans hX
  have := senter_any B B' gb st rb n gen vb N (tkS s cz).1 f (i + 1) (some ⟨lb, lo, none⟩) sc g A C vA vC X HN.out HCL.out (HG.out.below hb2) (HR.out.below hb2) (Nat.le_trans hBW hb2.size) hvb (by rw [HN.out]; exact tk_lt HCL.out hs hk)
  rw [show ((i + 1 : Nat) : Int) = (i : Int) + 1 by omega] at this
  exact this)
 have t0 : W.drew.cell? ⟨w.heap.size, 0, none⟩ = some (.int .i64 (x : Nat)) := (Lib.cell_of_heap HTB.out 0).trans rfl
 have tz : w.heap.size < W.drew.heap.size := lt_blkB HTB.out
 have d0 : W.drew.cell? ⟨rb, 0, none⟩ = some (.pointer (some ⟨gb, 0, none⟩)) := c0
 have d1 : W.drew.cell? ⟨rb, 1, none⟩ = some (.slice (some ⟨lb, lo, none⟩) N sc) := c1
 have dz : rb < W.drew.heap.size := cz0
 have hlzd : lb < W.drew.heap.size := hlz
 obtain ⟨tk, htk⟩ : ∃ tk, tk = tkS s cz := ⟨_, rfl⟩
 rw [← htk] at HTK HEN HET
 have hi2 : (i : Int) + 1 ≤ 9223372036854775807 := by omega
 obtain ⟨ny, ok⟩ := tk
 dsimp only at HTK HEN HET
 unfold EntQ at HEN ⊢
 clear hW hb h hg hcell hn hcl HE hlc hs htk
 go_enter Tryz.func31, Tryz.ntmps31
 go_upto_region 1 with fail
 rw [← HWE.out]
 go_upto_region 2 with fail
 refine Reg.wp_region_sto (fun L u X => if L 13 = true then Below W.drew.heap.size W.drew X else X = W.drew) (fun j => ([some (.pointer (some ⟨rb, 0, none⟩)), some (.pointer (some ⟨rb, 0, none⟩)), some (.pointer (some ⟨rb, 0, none⟩)), some (.pointer (some ⟨gb, 0, none⟩)), some (.pointer (some ⟨w.heap.size, 0, none⟩)), some (.int .i64 (x : Nat)), some (.pointer (some ⟨rb, 0, none⟩)), some (.pointer (some ⟨rb, 0, none⟩)), some (.pointer (some ⟨rb, 1, none⟩)), some (.slice (some ⟨lb, lo, none⟩) N sc), some (.int .i64 (i : Nat)), some (.pointer (some ⟨lb, lo + i, none⟩)), some (.int .u8 (cz : Nat)), some (.tuple #[.int .i64 (ny : Nat), .bool ok]), some (.tuple #[.int .i64 (ny : Nat), .bool ok]), some (.int .i64 (ny : Nat)), some (.bool ok), some (.int .i64 (ny : Nat)), some (.bool ok)] : List (Option Value)).getD j none) (by kernel_rfl) (by kernel_rfl) (by kernel_rfl) (by kernel_rfl) ?rs0 ?rsE ?rsZ
 case rs0 => (rw [if_neg (by decide)]; rfl)
 case rsE =>
  refine Reg.EachG.plain rfl (fun L u T X hL hz hS hk K hK => ?_) ?_
  ·skip
   have g0 := hk.old 0 (by kernel_rfl) rfl
   have hS0 := hS
   rw [hz 13 (by kernel_rfl), if_neg (by decide)] at hS0
   have hK := hK _ X (by rw [Reg.upd_ne _ _ (by decide)]; exact hS) (fun _ hx => Option.some.inj hx)
   subst hS0
   clear hk hz hL hS
   go_simp
   exact hK
  refine Reg.EachG.plain rfl (fun L u T X hL hz hS hk K hK => ?_) ?_
  ·skip
   have g16 := hk.val 0 16 (by kernel_rfl) (by kernel_rfl) rfl
   have hS0 := hS
   rw [hz 13 (by kernel_rfl), if_neg (by decide)] at hS0
   have hK := hK _ X (by rw [Reg.upd_ne _ _ (by decide)]; exact hS) (fun _ hx => Option.some.inj hx)
   subst hS0
   clear hk hz hL hS
   go_simp
   exact hK
  refine Reg.EachG.plain rfl (fun L u T X hL hz hS hk K hK => ?_) ?_
  ·skip
   have g17 := hk.val 1 17 (by kernel_rfl) (by kernel_rfl) rfl
   have hS0 := hS
   rw [hz 13 (by kernel_rfl), if_neg (by decide)] at hS0
   have hK := hK _ X (by rw [Reg.upd_ne _ _ (by decide)]; exact hS) (fun _ hx => Option.some.inj hx)
   subst hS0
   clear hk hz hL hS
   go_simp
   exact hK
  refine Reg.EachG.plain rfl (fun L u T X hL hz hS hk K hK => ?_) ?_
  ·skip
   have g18 := hk.val 2 18 (by kernel_rfl) (by kernel_rfl) rfl
   have hS0 := hS
   rw [hz 13 (by kernel_rfl), if_neg (by decide)] at hS0
   have hK := hK _ X (by rw [Reg.upd_ne _ _ (by decide)]; exact hS) (fun _ hx => Option.some.inj hx)
   subst hS0
   clear hk hz hL hS
   go_simp
   exact hK
  refine Reg.EachG.plain rfl (fun L u T X hL hz hS hk K hK => ?_) ?_
  ·skip
   have g4 := hk.old 4 (by kernel_rfl) rfl
   have hS0 := hS
   rw [hz 13 (by kernel_rfl), if_neg (by decide)] at hS0
   have hK := hK _ X (by rw [Reg.upd_ne _ _ (by decide)]; exact hS) (fun _ hx => Option.some.inj hx)
   subst hS0
   clear hk hz hL hS
   go_simp
   exact hK
  refine Reg.EachG.plain rfl (fun L u T X hL hz hS hk K hK => ?_) ?_
  ·skip
   have g20 := hk.val 4 20 (by kernel_rfl) (by kernel_rfl) rfl
   have hS0 := hS
   rw [hz 13 (by kernel_rfl), if_neg (by decide)] at hS0
   have hK := hK _ X (by rw [Reg.upd_ne _ _ (by decide)]; exact hS) (fun _ hx => Option.some.inj hx)
   subst hS0
   clear hk hz hL hS
   go_simp
   exact hK
  refine Reg.EachG.plain rfl (fun L u T X hL hz hS hk K hK => ?_) ?_
  ·skip
   have g0 := hk.old 0 (by kernel_rfl) rfl
   have hS0 := hS
   rw [hz 13 (by kernel_rfl), if_neg (by decide)] at hS0
   have hK := hK _ X (by rw [Reg.upd_ne _ _ (by decide)]; exact hS) (fun _ hx => Option.some.inj hx)
   subst hS0
   clear hk hz hL hS
   go_simp
   exact hK
  refine Reg.EachG.plain rfl (fun L u T X hL hz hS hk K hK => ?_) ?_
  ·skip
   have g22 := hk.val 6 22 (by kernel_rfl) (by kernel_rfl) rfl
   have hS0 := hS
   rw [hz 13 (by kernel_rfl), if_neg (by decide)] at hS0
   have hK := hK _ X (by rw [Reg.upd_ne _ _ (by decide)]; exact hS) (fun _ hx => Option.some.inj hx)
   subst hS0
   clear hk hz hL hS
   go_simp
   exact hK
  refine Reg.EachG.plain rfl (fun L u T X hL hz hS hk K hK => ?_) ?_
  ·skip
   have g23 := hk.val 7 23 (by kernel_rfl) (by kernel_rfl) rfl
   have hS0 := hS
   rw [hz 13 (by kernel_rfl), if_neg (by decide)] at hS0
   have hK := hK _ X (by rw [Reg.upd_ne _ _ (by decide)]; exact hS) (fun _ hx => Option.some.inj hx)
   subst hS0
   clear hk hz hL hS
   go_simp
   exact hK
  refine Reg.EachG.plain rfl (fun L u T X hL hz hS hk K hK => ?_) ?_
  ·skip
   have g24 := hk.val 8 24 (by kernel_rfl) (by kernel_rfl) rfl
   have hS0 := hS
   rw [hz 13 (by kernel_rfl), if_neg (by decide)] at hS0
   have hK := hK _ X (by rw [Reg.upd_ne _ _ (by decide)]; exact hS) (fun _ hx => Option.some.inj hx)
   subst hS0
   clear hk hz hL hS
   go_simp
   exact hK
  refine Reg.EachG.plain rfl (fun L u T X hL hz hS hk K hK => ?_) ?_
  ·skip
   have g2 := hk.old 2 (by kernel_rfl) rfl
   have hS0 := hS
   rw [hz 13 (by kernel_rfl), if_neg (by decide)] at hS0
   have hK := hK _ X (by rw [Reg.upd_ne _ _ (by decide)]; exact hS) (fun _ hx => Option.some.inj hx)
   subst hS0
   clear hk hz hL hS
   go_simp
   exact hK
  refine Reg.EachG.plain rfl (fun L u T X hL hz hS hk K hK => ?_) ?_
  ·skip
   have g25 := hk.val 9 25 (by kernel_rfl) (by kernel_rfl) rfl
   have g26 := hk.val 10 26 (by kernel_rfl) (by kernel_rfl) rfl
   have hS0 := hS
   rw [hz 13 (by kernel_rfl), if_neg (by decide)] at hS0
   have hK := hK _ X (by rw [Reg.upd_ne _ _ (by decide)]; exact hS) (fun _ hx => Option.some.inj hx)
   subst hS0
   clear hk hz hL hS
   go_simp
   exact hK
  refine Reg.EachG.plain rfl (fun L u T X hL hz hS hk K hK => ?_) ?_
  ·skip
   have g27 := hk.val 11 27 (by kernel_rfl) (by kernel_rfl) rfl
   have hS0 := hS
   rw [hz 13 (by kernel_rfl), if_neg (by decide)] at hS0
   have hK := hK _ X (by rw [Reg.upd_ne _ _ (by decide)]; exact hS) (fun _ hx => Option.some.inj hx)
   subst hS0
   clear hk hz hL hS
   go_simp
   exact hK
  refine Reg.EachG.plain rfl (fun L u T X hL hz hS hk K hK => ?_) ?_
  ·skip
   have g19 := hk.val 3 19 (by kernel_rfl) (by kernel_rfl) rfl
   have g21 := hk.val 5 21 (by kernel_rfl) (by kernel_rfl) rfl
   have g28 := hk.val 12 28 (by kernel_rfl) (by kernel_rfl) rfl
   rw [hL, if_neg (by decide)] at hS
   subst hS
   clear hk hz
   go_simp
   refine HTK.out.mono ?_
   rintro r X1 ⟨rfl, hb1⟩
   exact hK _ X1 (by rw [Reg.upd_same, if_pos rfl]; exact hb1) (fun _ hx => Option.some.inj hx)
  refine Reg.EachG.plain rfl (fun L u T X hL hz hS hk K hK => ?_) ?_
  ·skip
   have g29 := hk.val 13 29 (by kernel_rfl) (by kernel_rfl) rfl
   have hK := hK _ X (by rw [Reg.upd_ne _ _ (by decide)]; exact hS) (fun _ hx => Option.some.inj hx)
   clear hk hz hL hS
   go_simp
   exact hK
  refine Reg.EachG.plain rfl (fun L u T X hL hz hS hk K hK => ?_) ?_
  ·skip
   have g15 := hk.val 14 15 (by kernel_rfl) (by kernel_rfl) rfl
   have hK := hK _ X (by rw [Reg.upd_ne _ _ (by decide)]; exact hS) (fun _ hx => Option.some.inj hx)
   clear hk hz hL hS
   go_simp
   exact hK
  refine Reg.EachG.plain rfl (fun L u T X hL hz hS hk K hK => ?_) ?_
  ·skip
   have g15 := hk.val 14 15 (by kernel_rfl) (by kernel_rfl) rfl
   have hK := hK _ X (by rw [Reg.upd_ne _ _ (by decide)]; exact hS) (fun _ hx => Option.some.inj hx)
   clear hk hz hL hS
   go_simp
   exact hK
  refine Reg.EachG.plain rfl (fun L u T X hL hz hS hk K hK => ?_) ?_
  ·skip
   have g30 := hk.val 15 30 (by kernel_rfl) (by kernel_rfl) rfl
   have hK := hK _ X (by rw [Reg.upd_ne _ _ (by decide)]; exact hS) (fun _ hx => Option.some.inj hx)
   clear hk hz hL hS
   go_simp
   exact hK
  refine Reg.EachG.plain rfl (fun L u T X hL hz hS hk K hK => ?_) ?_
  ·skip
   have g31 := hk.val 16 31 (by kernel_rfl) (by kernel_rfl) rfl
   have hK := hK _ X (by rw [Reg.upd_ne _ _ (by decide)]; exact hS) (fun _ hx => Option.some.inj hx)
   clear hk hz hL hS
   go_simp
   exact hK
  exact Reg.EachG.nil
 case rsZ =>
  intro L u w1 hL hS hI
  have e0 := hI 0 (by decide) _ rfl
  have e1 := hI 1 (by decide) _ rfl
  have e2 := hI 2 (by decide) _ rfl
  have e3 := hI 3 (by decide) _ rfl
  have e4 := hI 4 (by decide) _ rfl
  have e5 := hI 5 (by decide) _ rfl
  have e6 := hI 6 (by decide) _ rfl
  have e7 := hI 7 (by decide) _ rfl
  have e8 := hI 8 (by decide) _ rfl
  have e9 := hI 9 (by decide) _ rfl
  have e10 := hI 10 (by decide) _ rfl
  have e11 := hI 11 (by decide) _ rfl
  have e12 := hI 12 (by decide) _ rfl
  have e13 := hI 13 (by decide) _ rfl
  have e14 := hI 14 (by decide) _ rfl
  have e15 := hI 15 (by decide) _ rfl
  have e16 := hI 16 (by decide) _ rfl
  have e17 := hI 17 (by decide) _ rfl
  have e18 := hI 18 (by decide) _ rfl
  clear hI
  simp only [Reg.putAll, Act.put, List.setIfInBounds_toArray, List.set_cons_succ, List.set_cons_zero, Nat.zero_add, Nat.reduceAdd, e0, e1, e2, e3, e4, e5, e6, e7, e8, e9, e10, e11, e12, e13, e14, e15, e16, e17, e18]
  clear e0 e1 e2 e3 e4 e5 e6 e7 e8 e9 e10 e11 e12 e13 e14 e15 e16 e17 e18
  rw [hL 13 (by decide), if_pos rfl] at hS
  have HBX := Lib.hid hS
  have hb2 : Below W.heap.size W w1 := (Below.refl W.heap.size W).drew.trans hS
  have HC1 := Lib.hid (HC.out.trans (ChSm.below hb2 hBW))
  have HR1 := Lib.hid (HR.out.below hb2)
  have htb := blk_below HTB.out hb2
  have u1 : w1.cell? ⟨w.heap.size, 1, none⟩ = some (.int .i64 (f : Nat)) := (Lib.cell_of_heap htb 1).trans rfl
  have uz := lt_blkB htb
  clear hS hL u L hb2 htb t0 tz d0 d1 dz c0 c1 cz0 hlw hlz hlzd
  cases ok with
  | false =>
   have HE := Lib.hid (HET.out.trans (if_neg (by decide)))
   go_wp2
   go_end0
   rw [HE.out]
   exact ⟨rfl, _, HR1.out, HC1.out⟩
  | true =>
   have HE := Lib.hid (HET.out.trans (if_pos rfl))
   have HA := Lib.hid (HEN.out w1 rfl HBX.out)
   go_wp2_with fail
   refine HA.out.mono ?_
   rintro r w2 ⟨rfl, v2, hs2, hc2⟩
   have HS2 := Lib.hid hs2
   have HC2 := Lib.hid (HC1.out.trans hc2)
   clear hs2 hc2 u1 uz
   go_wp2
   go_end0
   rw [HE.out]
   first | exact ⟨rfl, v2, HS2.out, HC2.out⟩ | exact ⟨rfl, ⟨v2, HS2.out⟩, HC2.out⟩
end Go.Proofs.YtnpkcllbpnmabaaGreatDoor
