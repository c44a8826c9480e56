/- KRfc: several texts in one (kmerge.py). -/
import Derived.Test.YtoodpajbefffhaaDoorKShf
import Derived.Test.YtoodpajbefffhaaDoorGlM2
import Derived.Test.YtoodpajbefffhaaDoorSeCy
/- The contract of the reference's item (gen_rfc.py). -/
namespace Go.Proofs.YtoodpajbefffhaaDoor
open Go.RowKit

/-- A class's way. -/
def clsR (cf : ByteArray → (Nat → Bool) × Bool) (s : ByteArray) (k : Nat) : IR := match cnE s (s.size - (k + 2)) (k + 2) with | none => .bad k | some e => if (cf (s.extract (k + 2) e)).2 = true then .cls (cf (s.extract (k + 2) e)).1 (e + 2) else .bad k
/-- What item answers. -/
def RiPost (r : IR) (k : Nat) (e : Ending) : Prop :=
  match r with
  | .bad pos => ∃ q, e = .returned (.tuple #[.int .i64 0, SV q, .int .i64 k, .int .i64 8, .int .i64 pos])
  | .cls p nx => e = .returned (.tuple #[.int .i64 (-1), SV p, .int .i64 (nx : Nat), .int .i64 0, .int .i64 0])
  | .byt c nx => e = .returned (.tuple #[.int .i64 c, SV noP, .int .i64 (nx : Nat), .int .i64 0, .int .i64 0])
/-- The state within the regions that end the class's way. -/
structure RiS (w : World) (b13 : Nat) (q : Nat → Bool) (d4 : Bool) (X : World) : Prop where
  bel : Below w.heap.size w X
  lt : w.heap.size < b13
  src : X.heap[b13]? = some (.cells #[.int .u64 (sw q 0 : Nat), .int .u64 (sw q 1 : Nat), .int .u64 (sw q 2 : Nat), .int .u64 (sw q 3 : Nat)] 39 (0, 0))
  box : d4 = false → X.heap[w.heap.size]? = some (.cells #[.int .u64 0, .int .u64 0, .int .u64 0, .int .u64 0] 39 (0, 0))
  box' : d4 = true → X.heap[w.heap.size]? = some (.cells #[.int .u64 (sw q 0 : Nat), .int .u64 (sw q 1 : Nat), .int .u64 (sw q 2 : Nat), .int .u64 (sw q 3 : Nat)] 39 (0, 0))
theorem blk_putR {X : World} {b i : Nat} {cs : Array Value} {y : Value} {T : TypeId} (h : X.heap[b]? = some (.cells cs T (0, 0))) : (X.setCell ⟨b, i, none⟩ y).heap[b]? = some (.cells (cs.setIfInBounds i y) T (0, 0)) := by
  show (X.heap.modify b _)[b]? = _
  rw [Array.getElem?_modify, if_pos rfl, h]
  rfl
theorem ext_take {l : List Int} (h : Byt l) (i j : Nat) : (ofBys l).extract i j = ofBys ((l.drop i).take (j - i)) := by
  apply bys_inj
  rw [bys_extract, bys_ofBys h, bys_ofBys]
  intro z
  by_cases hz : z < j - i
  · have := h (i + z)
    rwa [show ((l.drop i).take (j - i)).getD z 0 = l.getD (i + z) 0 by simp [List.getD, hz]]
  · rw [List.getD, List.getElem?_eq_none (by simp; omega)]; simp
theorem atB_listR {l : List Int} (h : Byt l) (k : Nat) : atB (ofBys l) k = l.getD k 0 := by unfold atB; rw [bys_ofBys h]
theorem sl_cutR {w : World} {vb vo n vc : Nat} {l : List Int} (h : Sl w (.slice (some ⟨vb, vo, none⟩) n vc) l) (j d : Nat) (hd : j + d ≤ l.length) : Sl w (.slice (some ⟨vb, vo + j, none⟩) d (vc - j)) ((l.drop j).take d) := by
  obtain ⟨hy, hl, hr⟩ := h
  have hyd : Byt ((l.drop j).take d) := fun i => by
    by_cases hi : i < d
    · have := hy (j + i)
      rwa [show ((l.drop j).take d).getD i 0 = l.getD (j + i) 0 by simp [List.getD, hi]]
    · rw [List.getD, List.getElem?_eq_none (by simp; omega)]; simp
  have hlen : ((l.drop j).take d).length = d := by simp; omega
  rcases hr with ⟨rfl, _⟩ | ⟨b, o, cap, he, hcl, hcm, hr⟩
  · have : d = 0 := by simp at hd; omega
    subst this
    exact ⟨hyd, by simp, Or.inl ⟨by simp, _, _, rfl⟩⟩
  · simp only [Value.slice.injEq, Option.some.injEq, Addr.mk.injEq] at he
    obtain ⟨⟨rfl, rfl, _⟩, _, rfl⟩ := he
    refine ⟨hyd, by rw [hlen]; omega, Or.inr ⟨vb, vo + j, vc - j, by rw [hlen], by rw [hlen]; omega, by omega, fun i hi => ?_⟩⟩
    rw [hlen] at hi
    have := hr (j + i) (by omega)
    rw [show ((l.drop j).take d).getD i 0 = l.getD (j + i) 0 by simp [List.getD, hi], Nat.add_assoc]
    exact this
theorem cnE_none (s : ByteArray) (j : Nat) (h : s.size ≤ j + 1) : cnE s (s.size - j) j = none := by
  rcases Nat.lt_or_ge j s.size with hj | hj
  · rw [show s.size - j = 0 + 1 by omega]
    unfold cnE
    rw [if_neg (fun h' => by have := atB_out (s := s) (k := j + 1) h; omega)]
    rfl
  · rw [show s.size - j = 0 by omega]
    rfl

set_option maxRecDepth 100000 in
set_option maxHeartbeats 16000000 in
theorem ritem_cls (cf : ByteArray → (Nat → Bool) × Bool) (hrf : ClassRf cf) (x o cap : Nat) (l : List Int) (k : Nat) (lg : Int) (w : World) (hs : Sl w (.slice (some ⟨x, o, none⟩) l.length cap) l) (hk : k < l.length) (h91 : l.getD k 0 = 91) (h1 : k + 1 < l.length) (h58 : l.getD (k + 1) 0 = 58) (hb47 : l.length ≤ 140737488351232) {R : IR} (hR : clsR cf (ofBys l) k = R) :
    Calls Tryd.prog 24 #[.slice (some ⟨x, o, none⟩) l.length cap, .int .i64 k, .int .i64 lg] w fun e w' => RiPost R k e ∧ Below w.heap.size w w' := by
  have HSL := Lib.hid hs
  obtain ⟨hy, hl, ⟨rfl, _⟩ | ⟨x', o', cap', he, hcl, hcm, hr⟩⟩ := hs
  · simp at hk
  simp only [Value.slice.injEq, Option.some.injEq, Addr.mk.injEq] at he
  obtain ⟨⟨rfl, rfl, _⟩, _, rfl⟩ := he
  have p0 := hr k hk
  have hxz := World.block_lt_of_cell? _ _ p0
  simp only at hxz
  have p1 := hr (k + 1) h1
  have hkI : (k : Int) < (l.length : Int) := by omega
  have h1b : (k : Int) + 1 < (l.length : Int) := by omega
  have e1 : (l.getD k 0 == 91) = true := by rw [h91]; rfl
  have e3 : (l.getD (k + 1) 0 == 46) = false := by rw [h58]; rfl
  have e4 : (l.getD (k + 1) 0 == 61) = false := by rw [h58]; rfl
  have e5 : (l.getD (k + 1) 0 == 58) = true := by rw [h58]; rfl
  have HR := Lib.hid hr
  have HY := Lib.hid hy
  obtain ⟨s, hs⟩ : ∃ s, s = ofBys l := ⟨_, rfl⟩
  have HSZ : Hid (s.size = l.length) := Lib.hid (by rw [hs, ofBys_size])
  have HAT : Hid (∀ j, atB s j = l.getD j 0) := Lib.hid (fun j => by rw [hs]; exact atB_listR hy j)
  have HEX : Hid (∀ j, s.extract (k + 2) j = ofBys ((l.drop (k + 2)).take (j - (k + 2)))) := Lib.hid (fun j => by rw [hs]; exact ext_take hy _ _)
  rw [← hs] at hR
  have HRR := Lib.hid hR
  clear hs hr hy h91 h58 hR
  generalize l.getD k 0 = c at *
  generalize l.getD (k + 1) 0 = c1 at *
  have HCR : ∀ nm X, Hid (Calls Tryd.prog 38 #[.string nm] X fun e w' => e = .returned (.tuple #[SV (cf nm).1, .bool (cf nm).2]) ∧ Below X.heap.size X w') := fun nm X => Lib.hid (hrf nm X)
  have HCRH := Lib.hid HCR
  clear hrf HCR
  have HW0 : Hid (Below w.heap.size w (w.alloc (.cells #[.int .u64 0, .int .u64 0, .int .u64 0, .int .u64 0] 39)) ∧ (w.alloc (.cells #[.int .u64 0, .int .u64 0, .int .u64 0, .int .u64 0] 39)).heap[w.heap.size]? = some (.cells #[.int .u64 0, .int .u64 0, .int .u64 0, .int .u64 0] 39 (0, 0))) := Lib.hid ⟨(Below.refl _ _).alloc (Nat.le_refl _) _, alloc_last w _⟩
  have HRW : Hid (∀ i, i < l.length → (w.alloc (.cells #[.int .u64 0, .int .u64 0, .int .u64 0, .int .u64 0] 39)).cell? ⟨x, o + i, none⟩ = some (.int .u8 (l.getD i 0))) := Lib.hid (fun i hi => (HW0.out.1.cell (p := ⟨x, o + i, none⟩) hxz).trans (HR.out i hi))
  have HSW := Lib.hid (HSL.out.below HW0.out.1)
  go_enter Tryd.func24, Tryd.ntmps24
  go_wp2_with fail
  clear p0 p1 e1 e3 e4 e5
  obtain ⟨W0, hW0⟩ : ∃ W0, W0 = w.alloc (.cells #[.int .u64 0, .int .u64 0, .int .u64 0, .int .u64 0] 39) := ⟨_, rfl⟩
  rw [← hW0] at HW0 HRW HSW ⊢
  clear hW0
  go_loopw [12] (fun v X => ∃ jj : Nat, v = .int .i64 (jj : Nat) ∧ k + 2 ≤ jj ∧ jj ≤ l.length ∧ Hid (cnE s (s.size - (k + 2)) (k + 2) = cnE s (s.size - jj) jj) ∧ X = W0) (fun v _ => l.length - (intOf v).toNat)
  case atStart => exact ⟨k + 2, by go_num, Nat.le_refl _, by omega, Lib.hid rfl, rfl⟩
  case round =>
    obtain ⟨jj, rfl, hj, hjl, HC, hX⟩ := hrel
    have hX' := hX.symm
    clear hX
    subst hX'
    by_cases hlt : jj + 1 < l.length
    · have hltI : (jj : Int) + 1 < (l.length : Int) := by omega
      have hjI : (jj : Int) < (l.length : Int) := by omega
      have q0 := HRW.out jj (by omega)
      have q1 := HRW.out (jj + 1) hlt
      have HA0 := Lib.hid (HAT.out jj)
      have HA1 := Lib.hid (HAT.out (jj + 1))
      obtain ⟨b0, hb0⟩ : ∃ b0, b0 = l.getD jj 0 := ⟨_, rfl⟩
      obtain ⟨b1, hb1⟩ : ∃ b1, b1 = l.getD (jj + 1) 0 := ⟨_, rfl⟩
      rw [← hb0] at q0 HA0
      rw [← hb1] at q1 HA1
      clear hb0 hb1
      by_cases hm : b0 = 58 ∧ b1 = 93
      · obtain ⟨rfl, rfl⟩ := hm
        have HCE : Hid (cnE s (s.size - (k + 2)) (k + 2) = some jj) := Lib.hid (by
          rw [HC.out, show s.size - jj = (s.size - (jj + 1)) + 1 by have := HSZ.out; omega]
          unfold cnE
          rw [if_pos ⟨HA0.out, HA1.out⟩])
        obtain ⟨lo, hlo⟩ : ∃ lo, lo = k + 2 := ⟨_, rfl⟩
        have hloI : (k : Int) + 2 = (lo : Int) := by omega
        have hlj : lo ≤ jj := by omega
        have hljI : (lo : Int) ≤ (jj : Int) := by omega
        have HSB : Hid (Sl W0 (.slice (some ⟨x, o + lo, none⟩) (jj - lo) (cap - lo)) ((l.drop lo).take (jj - lo))) := Lib.hid (sl_cutR HSW.out lo (jj - lo) (by omega))
        have hcv := conv_string HSB.out
        have HNM : Hid (s.extract (k + 2) jj = ofBys ((l.drop lo).take (jj - lo))) := Lib.hid (by rw [HEX.out, hlo])
        have HLO := Lib.hid hlo
        clear hlo
        have HCL := Lib.hid (HCRH.out (ofBys ((l.drop lo).take (jj - lo))) W0)
        generalize ofBys ((l.drop lo).take (jj - lo)) = nm at HCL HNM hcv
        obtain ⟨q, hq⟩ : ∃ q, q = (cf nm).1 := ⟨_, rfl⟩
        rw [← hq] at HCL
        unfold SV at HCL
        have HQ := Lib.hid hq
        have HCE2 := Lib.hid HCE.out
        have HWJ : Hid (IntKind.i64.wrap ((jj : Int) + 2) = (jj : Int) + 2) := Lib.hid (by rw [IntKind.wrap_i64]; omega)
        have HKL : Hid (k < l.length) := Lib.hid hk
        clear hq
        cases hok : (cf nm).2
        · rw [hok] at HCL
          go_wp2_with fail
          refine HCL.out.out.mono ?_
          rintro e w1 ⟨rfl, hb1⟩
          clear hcv
          have hzz := lt_blkB HW0.out.2
          have hz1 := hb1.size
          have HS0 : Hid (RiS w w1.heap.size q false (w1.alloc (.cells #[.int .u64 (sw q 0 : Nat), .int .u64 (sw q 1 : Nat), .int .u64 (sw q 2 : Nat), .int .u64 (sw q 3 : Nat)] 39))) := Lib.hid ⟨(below_thn HW0.out.1 (Nat.le_refl _) hb1).alloc (Nat.le_trans (Nat.le_of_lt hzz) hz1) _, by omega, alloc_last w1 _, fun _ => blk_alloc (blk_below HW0.out.2 hb1) _, fun h => (by cases h)⟩
          clear hb1
          go_wp2_with fail
          refine Reg.wp_region_sto (fun L u X => RiS w w1.heap.size q (L 4) X) (fun j => ([some (.agg #[.int .u64 (sw q 0 : Nat), .int .u64 (sw q 1 : Nat), .int .u64 (sw q 2 : Nat), .int .u64 (sw q 3 : Nat)]), some (.int .i64 (k : Nat)), some (.int .i64 (k : Nat)), some (.int .i64 0), none, some (.int .i64 (k : Nat)), some (.int .i64 8), some (.int .i64 (k : Nat))] : List (Option Value)).getD j none) (by kernel_rfl) (by kernel_rfl) (by kernel_rfl) (by kernel_rfl) ?rs0 ?rsE ?rsZ
          case rs0 => exact ⟨HS0.out.bel.drew, HS0.out.lt, HS0.out.src, HS0.out.box, HS0.out.box'⟩
          case rsE =>
            refine Reg.EachG.plain rfl (fun L u T X hL hz hS hk K hK => ?_) ?_
            · skip
              have g13 : T[13]? = some (.pointer (some ⟨w1.heap.size, 0, none⟩)) := hk.old 13 (by kernel_rfl) rfl
              obtain ⟨⟨y0, y1, y2, y3⟩, _, hbz⟩ := cells4 hS.src
              have hK := hK _ X hS (fun _ hx => Option.some.inj hx)
              clear hk hz hL
              go_simp
              exact hK
            refine Reg.EachG.plain rfl (fun L u T X hL hz hS hk K hK => ?_) ?_
            · skip
              have g1 : T[1]? = some (.int .i64 (k : Nat)) := hk.old 1 (by kernel_rfl) rfl
              have hK := hK _ X hS (fun _ hx => Option.some.inj hx)
              clear hk hz hL
              go_simp
              exact hK
            refine Reg.EachG.plain rfl (fun L u T X hL hz hS hk K hK => ?_) ?_
            · skip
              have g1 : T[1]? = some (.int .i64 (k : Nat)) := hk.old 1 (by kernel_rfl) rfl
              have hK := hK _ X hS (fun _ hx => Option.some.inj hx)
              clear hk hz hL
              go_simp
              exact hK
            refine Reg.EachG.plain rfl (fun L u T X hL hz hS hk K hK => ?_) ?_
            · skip
              have hK := hK _ X hS (fun _ hx => Option.some.inj hx)
              clear hk hz hL
              go_simp
              exact hK
            refine Reg.EachG.plain rfl (fun L u T X hL hz hS hk K hK => ?_) ?_
            · skip
              have g7 : T[7]? = some (.pointer (some ⟨w.heap.size, 0, none⟩)) := hk.old 7 (by kernel_rfl) rfl
              have g98 : T[98]? = some (.agg #[.int .u64 (sw q 0 : Nat), .int .u64 (sw q 1 : Nat), .int .u64 (sw q 2 : Nat), .int .u64 (sw q 3 : Nat)]) := hk.val 0 98 (by kernel_rfl) (by kernel_rfl) rfl
              obtain ⟨⟨y0, y1, y2, y3⟩, ⟨f0, f1, f2, f3⟩, hbz⟩ := cells4 (hS.box hL)
              have hK := hK undef ((((X.setCell ⟨w.heap.size, 0, none⟩ (.int .u64 (sw q 0 : Nat))).setCell ⟨w.heap.size, 1, none⟩ (.int .u64 (sw q 1 : Nat))).setCell ⟨w.heap.size, 2, none⟩ (.int .u64 (sw q 2 : Nat))).setCell ⟨w.heap.size, 3, none⟩ (.int .u64 (sw q 3 : Nat))) ⟨(((hS.bel.setCell (Nat.le_refl _) _).setCell (Nat.le_refl _) _).setCell (Nat.le_refl _) _).setCell (Nat.le_refl _) _, hS.lt, ((Below.heap_setCell _ _ _ _ (by simp; have := hS.lt; omega)).trans ((Below.heap_setCell _ _ _ _ (by simp; have := hS.lt; omega)).trans ((Below.heap_setCell _ _ _ _ (by simp; have := hS.lt; omega)).trans (Below.heap_setCell _ _ _ _ (by simp; have := hS.lt; omega))))).trans hS.src, fun h => (by rw [Reg.upd_same] at h; cases h), fun _ => blk_putR (blk_putR (blk_putR (blk_putR (hS.box hL))))⟩ (fun _ hx => by cases hx)
              clear hk hz hL hS
              go_simp
              exact hK
            refine Reg.EachG.plain rfl (fun L u T X hL hz hS hk K hK => ?_) ?_
            · skip
              have g99 : T[99]? = some (.int .i64 (k : Nat)) := hk.val 1 99 (by kernel_rfl) (by kernel_rfl) rfl
              have hK := hK _ X hS (fun _ hx => Option.some.inj hx)
              clear hk hz hL
              go_simp
              exact hK
            refine Reg.EachG.plain rfl (fun L u T X hL hz hS hk K hK => ?_) ?_
            · skip
              have hK := hK _ X hS (fun _ hx => Option.some.inj hx)
              clear hk hz hL
              go_simp
              exact hK
            refine Reg.EachG.plain rfl (fun L u T X hL hz hS hk K hK => ?_) ?_
            · skip
              have g100 : T[100]? = some (.int .i64 (k : Nat)) := hk.val 2 100 (by kernel_rfl) (by kernel_rfl) rfl
              have hK := hK _ X hS (fun _ hx => Option.some.inj hx)
              clear hk hz hL
              go_simp
              exact hK
            exact Reg.EachG.nil
          case rsZ =>
            intro L u w2 hL hS hI
            have e0 : u 0 = .agg #[.int .u64 (sw q 0 : Nat), .int .u64 (sw q 1 : Nat), .int .u64 (sw q 2 : Nat), .int .u64 (sw q 3 : Nat)] := hI 0 (by decide) _ rfl
            have e1 : u 1 = .int .i64 (k : Nat) := hI 1 (by decide) _ rfl
            have e2 : u 2 = .int .i64 (k : Nat) := hI 2 (by decide) _ rfl
            have e3 : u 3 = .int .i64 0 := hI 3 (by decide) _ rfl
            have e5 : u 5 = .int .i64 (k : Nat) := hI 5 (by decide) _ rfl
            have e6 : u 6 = .int .i64 8 := hI 6 (by decide) _ rfl
            have e7 : u 7 = .int .i64 (k : Nat) := hI 7 (by decide) _ rfl
            clear hI
            simp only [Reg.putAll, Act.put, List.setIfInBounds_toArray, List.set_cons_succ, List.set_cons_zero, Nat.zero_add, Nat.reduceAdd, e0, e1, e2, e3, e5, e6, e7]
            clear e0 e1 e2 e3 e5 e6 e7
            have HE := Lib.hid hS.bel
            obtain ⟨⟨y0, y1, y2, y3⟩, ⟨f0, f1, f2, f3⟩, hgz⟩ := cells4 (hS.box' (hL 4 (by decide)))
            clear hS hL
            go_wp2
            refine bodyPost_ret (by first | (simp [results, Tryd.results24, go_sem, y0, y1, y2, y3]; done) | (simp [results, Tryd.results24, go_sem, y0, y1, y2, y3]; rfl)) rfl ⟨?_, HE.out⟩
            rw [← HRR.out]
            unfold clsR
            rw [HCE2.out]
            simp only [HNM.out, hok]
            exact ⟨q, rfl⟩
        · rw [hok] at HCL
          go_wp2_with fail
          refine HCL.out.out.mono ?_
          rintro e w1 ⟨rfl, hb1⟩
          clear hcv
          have hzz := lt_blkB HW0.out.2
          have hz1 := hb1.size
          have HS0 : Hid (RiS w w1.heap.size q false (w1.alloc (.cells #[.int .u64 (sw q 0 : Nat), .int .u64 (sw q 1 : Nat), .int .u64 (sw q 2 : Nat), .int .u64 (sw q 3 : Nat)] 39))) := Lib.hid ⟨(below_thn HW0.out.1 (Nat.le_refl _) hb1).alloc (Nat.le_trans (Nat.le_of_lt hzz) hz1) _, by omega, alloc_last w1 _, fun _ => blk_alloc (blk_below HW0.out.2 hb1) _, fun h => (by cases h)⟩
          clear hb1
          go_wp2_with fail
          refine Reg.wp_region_sto (fun L u X => RiS w w1.heap.size q (L 4) X) (fun j => ([some (.agg #[.int .u64 (sw q 0 : Nat), .int .u64 (sw q 1 : Nat), .int .u64 (sw q 2 : Nat), .int .u64 (sw q 3 : Nat)]), some (.int .i64 (jj : Nat)), some (.int .i64 ((jj : Int) + 2)), some (.int .i64 (-1)), none, some (.int .i64 ((jj : Int) + 2)), some (.int .i64 0), some (.int .i64 0)] : List (Option Value)).getD j none) (by kernel_rfl) (by kernel_rfl) (by kernel_rfl) (by kernel_rfl) ?rs0 ?rsE ?rsZ
          case rs0 => exact ⟨HS0.out.bel.drew, HS0.out.lt, HS0.out.src, HS0.out.box, HS0.out.box'⟩
          case rsE =>
            refine Reg.EachG.plain rfl (fun L u T X hL hz hS hk K hK => ?_) ?_
            · skip
              have g13 : T[13]? = some (.pointer (some ⟨w1.heap.size, 0, none⟩)) := hk.old 13 (by kernel_rfl) rfl
              obtain ⟨⟨y0, y1, y2, y3⟩, _, hbz⟩ := cells4 hS.src
              have hK := hK _ X hS (fun _ hx => Option.some.inj hx)
              clear hk hz hL
              go_simp
              exact hK
            refine Reg.EachG.plain rfl (fun L u T X hL hz hS hk K hK => ?_) ?_
            · skip
              have g12 : T[12]? = some (.int .i64 (jj : Nat)) := hk.old 12 (by kernel_rfl) rfl
              have hK := hK _ X hS (fun _ hx => Option.some.inj hx)
              clear hk hz hL
              go_simp
              exact hK
            refine Reg.EachG.plain rfl (fun L u T X hL hz hS hk K hK => ?_) ?_
            · skip
              have g102 : T[102]? = some (.int .i64 (jj : Nat)) := hk.val 1 102 (by kernel_rfl) (by kernel_rfl) rfl
              have hwj := HWJ.out
              have hK := hK _ X hS (fun _ hx => Option.some.inj hx)
              clear hk hz hL
              go_simp
              exact hK
            refine Reg.EachG.plain rfl (fun L u T X hL hz hS hk K hK => ?_) ?_
            · skip
              have hK := hK _ X hS (fun _ hx => Option.some.inj hx)
              clear hk hz hL
              go_simp
              exact hK
            refine Reg.EachG.plain rfl (fun L u T X hL hz hS hk K hK => ?_) ?_
            · skip
              have g7 : T[7]? = some (.pointer (some ⟨w.heap.size, 0, none⟩)) := hk.old 7 (by kernel_rfl) rfl
              have g101 : T[101]? = some (.agg #[.int .u64 (sw q 0 : Nat), .int .u64 (sw q 1 : Nat), .int .u64 (sw q 2 : Nat), .int .u64 (sw q 3 : Nat)]) := hk.val 0 101 (by kernel_rfl) (by kernel_rfl) rfl
              obtain ⟨⟨y0, y1, y2, y3⟩, ⟨f0, f1, f2, f3⟩, hbz⟩ := cells4 (hS.box hL)
              have hK := hK undef ((((X.setCell ⟨w.heap.size, 0, none⟩ (.int .u64 (sw q 0 : Nat))).setCell ⟨w.heap.size, 1, none⟩ (.int .u64 (sw q 1 : Nat))).setCell ⟨w.heap.size, 2, none⟩ (.int .u64 (sw q 2 : Nat))).setCell ⟨w.heap.size, 3, none⟩ (.int .u64 (sw q 3 : Nat))) ⟨(((hS.bel.setCell (Nat.le_refl _) _).setCell (Nat.le_refl _) _).setCell (Nat.le_refl _) _).setCell (Nat.le_refl _) _, hS.lt, ((Below.heap_setCell _ _ _ _ (by simp; have := hS.lt; omega)).trans ((Below.heap_setCell _ _ _ _ (by simp; have := hS.lt; omega)).trans ((Below.heap_setCell _ _ _ _ (by simp; have := hS.lt; omega)).trans (Below.heap_setCell _ _ _ _ (by simp; have := hS.lt; omega))))).trans hS.src, fun h => (by rw [Reg.upd_same] at h; cases h), fun _ => blk_putR (blk_putR (blk_putR (blk_putR (hS.box hL))))⟩ (fun _ hx => by cases hx)
              clear hk hz hL hS
              go_simp
              exact hK
            refine Reg.EachG.plain rfl (fun L u T X hL hz hS hk K hK => ?_) ?_
            · skip
              have g103 : T[103]? = some (.int .i64 ((jj : Int) + 2)) := hk.val 2 103 (by kernel_rfl) (by kernel_rfl) rfl
              have hK := hK _ X hS (fun _ hx => Option.some.inj hx)
              clear hk hz hL
              go_simp
              exact hK
            refine Reg.EachG.plain rfl (fun L u T X hL hz hS hk K hK => ?_) ?_
            · skip
              have hK := hK _ X hS (fun _ hx => Option.some.inj hx)
              clear hk hz hL
              go_simp
              exact hK
            refine Reg.EachG.plain rfl (fun L u T X hL hz hS hk K hK => ?_) ?_
            · skip
              have hK := hK _ X hS (fun _ hx => Option.some.inj hx)
              clear hk hz hL
              go_simp
              exact hK
            exact Reg.EachG.nil
          case rsZ =>
            intro L u w2 hL hS hI
            have e0 : u 0 = .agg #[.int .u64 (sw q 0 : Nat), .int .u64 (sw q 1 : Nat), .int .u64 (sw q 2 : Nat), .int .u64 (sw q 3 : Nat)] := hI 0 (by decide) _ rfl
            have e1 : u 1 = .int .i64 (jj : Nat) := hI 1 (by decide) _ rfl
            have e2 : u 2 = .int .i64 ((jj : Int) + 2) := hI 2 (by decide) _ rfl
            have e3 : u 3 = .int .i64 (-1) := hI 3 (by decide) _ rfl
            have e5 : u 5 = .int .i64 ((jj : Int) + 2) := hI 5 (by decide) _ rfl
            have e6 : u 6 = .int .i64 0 := hI 6 (by decide) _ rfl
            have e7 : u 7 = .int .i64 0 := hI 7 (by decide) _ rfl
            clear hI
            simp only [Reg.putAll, Act.put, List.setIfInBounds_toArray, List.set_cons_succ, List.set_cons_zero, Nat.zero_add, Nat.reduceAdd, e0, e1, e2, e3, e5, e6, e7]
            clear e0 e1 e2 e3 e5 e6 e7
            have HE := Lib.hid hS.bel
            obtain ⟨⟨y0, y1, y2, y3⟩, ⟨f0, f1, f2, f3⟩, hgz⟩ := cells4 (hS.box' (hL 4 (by decide)))
            clear hS hL
            go_wp2
            refine bodyPost_ret (by first | (simp [results, Tryd.results24, go_sem, y0, y1, y2, y3]; done) | (simp [results, Tryd.results24, go_sem, y0, y1, y2, y3]; rfl)) rfl ⟨?_, HE.out⟩
            rw [← HRR.out]
            unfold clsR
            rw [HCE2.out]
            simp only [HNM.out, hok]
            show _ = _
            rw [HQ.out]
            rfl
      · have HCN : Hid (cnE s (s.size - (k + 2)) (k + 2) = cnE s (s.size - (jj + 1)) (jj + 1)) := Lib.hid (by
          rw [HC.out, show s.size - jj = (s.size - (jj + 1)) + 1 by have := HSZ.out; omega]
          conv => lhs; unfold cnE
          rw [if_neg (fun h => hm ⟨HA0.out.symm.trans h.1, HA1.out.symm.trans h.2⟩)])
        have h58 : ∀ z : Int, z = z := fun _ => rfl
        by_cases hb58 : b0 = 58
        · have f0 : (b0 == 58) = true := by rw [hb58]; rfl
          have f1 : (b1 == 93) = false := beq_eq_false_iff_ne.2 (fun h => hm ⟨hb58, h⟩)
          clear hm hb58 h58
          go_wp2_with fail
          go_roundw
          case rel => exact ⟨jj + 1, by go_num, by omega, by omega, HCN, trivial⟩
          case measure => simp [intOf]; omega
        · have f0 : (b0 == 58) = false := beq_eq_false_iff_ne.2 hb58
          clear hm hb58 h58
          go_wp2_with fail
          go_roundw
          case rel => exact ⟨jj + 1, by go_num, by omega, by omega, HCN, trivial⟩
          case measure => simp [intOf]; omega
    · have hltI : ¬ (jj : Int) + 1 < (l.length : Int) := by omega
      have hltD : decide ((jj : Int) + 1 < (l.length : Int)) = false := decide_eq_false hltI
      have HCE : Hid (cnE s (s.size - (k + 2)) (k + 2) = none) := Lib.hid (by rw [HC.out]; exact cnE_none s jj (by have := HSZ.out; omega))
      obtain ⟨⟨y0, y1, y2, y3⟩, ⟨f0, f1, f2, f3⟩, hgz⟩ := cells4 HW0.out.2
      have HB := Lib.hid HW0.out.1
      have HPB := Lib.hid HW0.out.2
      go_wp2
      refine bodyPost_ret (by first | (simp [results, Tryd.results24, go_sem, y0, y1, y2, y3]; done) | (simp [results, Tryd.results24, go_sem, y0, y1, y2, y3]; rfl)) rfl ⟨?_, ?_⟩
      · rw [← HRR.out]
        unfold clsR
        rw [HCE.out]
        exact ⟨noP, by rw [z_no]⟩
      · exact (((HB.out.setCell (Nat.le_refl _) _).setCell (Nat.le_refl _) _).setCell (Nat.le_refl _) _).setCell (Nat.le_refl _) _

theorem riB {e : Ending} {c : Int} {k d : Nat} (h : e = .returned (.tuple #[.int .i64 c, .agg #[.int .u64 0, .int .u64 0, .int .u64 0, .int .u64 0], .int .i64 ((k : Int) + d), .int .i64 0, .int .i64 0])) : RiPost (.byt c (k + d)) k e := by
  show e = _
  rw [h, z_no, Int.natCast_add]
theorem riX {e : Ending} {k pos : Nat} (h : e = .returned (.tuple #[.int .i64 0, .agg #[.int .u64 0, .int .u64 0, .int .u64 0, .int .u64 0], .int .i64 k, .int .i64 8, .int .i64 (pos : Nat)])) : RiPost (.bad pos) k e := ⟨noP, by rw [h, z_no]⟩
/-- The reference's item at a place of the text. -/
theorem ritem_any (cf : ByteArray → (Nat → Bool) × Bool) (hrf : ClassRf cf) (x o cap : Nat) (l : List Int) (k : Nat) (lg : Int) (w : World) (hs : Sl w (.slice (some ⟨x, o, none⟩) l.length cap) l) (hk : k < l.length) (hb47 : l.length ≤ 140737488351232) :
    Calls Tryd.prog 24 #[.slice (some ⟨x, o, none⟩) l.length cap, .int .i64 k, .int .i64 lg] w fun e w' => RiPost (itemR cf (ofBys l) (decide (lg = 2)) k) k e ∧ Below w.heap.size w w' := by
  have a0 := atB_listR hs.1 k
  have a1 := atB_listR hs.1 (k + 1)
  have hz : (ofBys l).size = l.length := ofBys_size l
  have hout : ¬ k + 1 < l.length → l.getD (k + 1) 0 = 0 := fun h => by rw [List.getD, List.getElem?_eq_none (by omega)]; rfl
  unfold itemR
  rw [a0, a1, hz]
  by_cases h91 : l.getD k 0 = 91
  · by_cases h1 : k + 1 < l.length
    · by_cases h58 : l.getD (k + 1) 0 = 58
      · rw [if_pos ⟨h91, h58⟩]
        have := ritem_cls cf hrf x o cap l k lg w hs hk h91 h1 h58 hb47 (R := clsR cf (ofBys l) k) rfl
        unfold clsR at this
        rw [hz] at this
        exact this
      · rw [if_neg (fun h => h58 h.2)]
        by_cases h46 : l.getD (k + 1) 0 = 46
        · rw [if_pos ⟨h91, Or.inl h46⟩]
          exact (ritem_dot x o cap l k lg w hs hk h91 h1 h46).mono fun _ _ h => ⟨riX h.1, h.2⟩
        · by_cases h61 : l.getD (k + 1) 0 = 61
          · rw [if_pos ⟨h91, Or.inr h61⟩]
            exact (ritem_eq x o cap l k lg w hs hk h91 h1 h61).mono fun _ _ h => ⟨riX h.1, h.2⟩
          · rw [if_neg (fun h => h.2.elim h46 h61), if_neg (fun h => by rw [h91] at h; exact absurd h.2 (by decide)), if_pos hk]
            exact (ritem_open x o cap l k lg w hs hk h91 h1 h46 h61 h58).mono fun _ _ h => ⟨riB (d := 1) h.1, h.2⟩
    · have h0 := hout h1
      rw [if_neg (fun h => by rw [h0] at h; exact absurd h.2 (by decide)), if_neg (fun h => by rw [h0] at h; exact absurd h.2 (by decide)), if_neg (fun h => by rw [h91] at h; exact absurd h.2 (by decide)), if_pos hk]
      exact (ritem_last x o cap l k lg w hs hk h91 h1).mono fun _ _ h => ⟨riB (d := 1) h.1, h.2⟩
  · rw [if_neg (fun h => h91 h.1), if_neg (fun h => h91 h.1)]
    by_cases h92 : l.getD k 0 = 92
    · by_cases hlg : lg = 2
      · rw [if_pos ⟨by simpa using hlg, h92⟩]
        by_cases h1 : k + 1 < l.length
        · rw [if_pos h1]
          exact (ritem_esc x o cap l k lg w hs hk h92 hlg h1).mono fun _ _ h => ⟨riB (d := 2) h.1, h.2⟩
        · rw [if_neg h1]
          exact (ritem_escend x o cap l k lg w hs hk h92 hlg h1).mono fun _ _ h => ⟨riX (by rw [h.1, show l.length = k + 1 by omega]), h.2⟩
      · rw [if_neg (fun h => hlg (by simpa using h.1)), if_pos hk]
        exact (ritem_slash x o cap l k lg w hs hk h92 hlg).mono fun _ _ h => ⟨riB (d := 1) h.1, h.2⟩
    · rw [if_neg (fun h => h92 h.2), if_pos hk]
      exact (ritem_plain x o cap l k lg w hs hk h91 h92).mono fun _ _ h => ⟨riB (d := 1) h.1, h.2⟩
end Go.Proofs.YtoodpajbefffhaaDoor
/- The reference's F: a fault of three numbers. -/
namespace Go.Proofs.YtoodpajbefffhaaDoor
open Go.RowKit

set_option maxRecDepth 100000 in
set_option maxHeartbeats 4000000 in
theorem rf_any (c p l : Int) (w : World) :
    Calls Tryd.prog 10 #[.int .i64 c, .int .i64 p, .int .i64 l] w fun e w' => e = .returned (.agg #[.int .i64 c, .int .i64 p, .int .i64 l]) ∧ Below w.heap.size w w' := by
  go_enter Tryd.func10, Tryd.ntmps10
  go_wp2
  exact bodyPost_ret (by simp [results, Tryd.results10, go_sem]) rfl ⟨rfl, (Below.refl _ _).alloc (Nat.le_refl _) _⟩
end Go.Proofs.YtoodpajbefffhaaDoor
/- The contract of the reference's Bracket, in every language, from every beginning (gen_rfb2.py). -/
namespace Go.Proofs.YtoodpajbefffhaaDoor
open Go.RowKit

/-- What Bracket answers. -/
def RbPost (r : BR) (lg : Int) (e : Ending) : Prop :=
  match r with
  | .ok p nx => e = .returned (.tuple #[SV p, .int .i64 (nx : Nat), .agg #[.int .i64 0, .int .i64 0, .int .i64 0]])
  | .bad c pos => e = .returned (.tuple #[.agg #[.int .u64 0, .int .u64 0, .int .u64 0, .int .u64 0], .int .i64 0, .agg #[.int .i64 (c : Nat), .int .i64 (pos : Nat), .int .i64 lg]])
structure RbI (w : World) (p : Nat → Bool) (X : World) : Prop where
  bel : Below w.heap.size w X
  b6 : X.heap[w.heap.size]? = some (.cells #[.int .u64 0, .int .u64 0, .int .u64 0, .int .u64 0] 39 (0, 0))
  b8 : X.heap[(w.heap.size + 1)]? = some (.cells #[.int .i64 0, .int .i64 0, .int .i64 0] 26 (0, 0))
  b9 : X.heap[(w.heap.size + 1 + 1)]? = some (.cells #[.int .u64 (sw p 0 : Nat), .int .u64 (sw p 1 : Nat), .int .u64 (sw p 2 : Nat), .int .u64 (sw p 3 : Nat)] 39 (0, 0))
theorem RbI.nxt {w X X' : World} {p : Nat → Bool} (h : RbI w p X) (hb : Below X.heap.size X X') : RbI w p X' :=
  ⟨below_thn h.bel (Nat.le_refl _) hb, blk_below h.b6 hb, blk_below h.b8 hb, blk_below h.b9 hb⟩
theorem refL_fuel (cf : ByteArray → (Nat → Bool) × Bool) (s : ByteArray) (g : Bool) (n m k : Nat) (f : Bool) (p : Nat → Bool) (hk : k ≤ s.size) (h1 : s.size + 1 - k ≤ n) (h2 : s.size + 1 - k ≤ m) : refL cf s g n k f p = refL cf s g m k f p := by
  rw [refL_brkL cf s g n k f p hk h1, refL_brkL cf s g m k f p hk h2]
  exact brkL_fuel cf s g n m k f p h1 h2 (by omega) (by omega)
theorem RbI.put {w X : World} {p : Nat → Bool} (h : RbI w p X) (q : Nat → Bool) :
    RbI w q ((((X.setCell ⟨w.heap.size + 1 + 1, 0, none⟩ (.int .u64 (sw q 0 : Nat))).setCell ⟨w.heap.size + 1 + 1, 1, none⟩ (.int .u64 (sw q 1 : Nat))).setCell ⟨w.heap.size + 1 + 1, 2, none⟩ (.int .u64 (sw q 2 : Nat))).setCell ⟨w.heap.size + 1 + 1, 3, none⟩ (.int .u64 (sw q 3 : Nat))) := by
  have o : ∀ (Y : World) (j i : Nat) (v : Value), j ≠ w.heap.size + 1 + 1 → (Y.setCell ⟨w.heap.size + 1 + 1, i, none⟩ v).heap[j]? = Y.heap[j]? := fun Y j i v hj => Below.heap_setCell _ _ _ _ (by simpa using hj)
  have hB : w.heap.size ≤ w.heap.size + 1 + 1 := by omega
  refine ⟨(((h.bel.setCell hB _).setCell hB _).setCell hB _).setCell hB _, ?_, ?_, blk_putR (blk_putR (blk_putR (blk_putR h.b9)))⟩
  · rw [o _ _ _ _ (by omega), o _ _ _ _ (by omega), o _ _ _ _ (by omega), o _ _ _ _ (by omega)]; exact h.b6
  · rw [o _ _ _ _ (by omega), o _ _ _ _ (by omega), o _ _ _ _ (by omega), o _ _ _ _ (by omega)]; exact h.b8
theorem RbI.start (w : World) : RbI w noP (((w.alloc (.cells #[.int .u64 0, .int .u64 0, .int .u64 0, .int .u64 0] 39)).alloc (.cells #[.int .i64 0, .int .i64 0, .int .i64 0] 26)).alloc (.cells #[.int .u64 0, .int .u64 0, .int .u64 0, .int .u64 0] 39)) := by
  have h1 := alloc_last w (.cells #[.int .u64 0, .int .u64 0, .int .u64 0, .int .u64 0] 39)
  have h2 := alloc_last (w.alloc (.cells #[.int .u64 0, .int .u64 0, .int .u64 0, .int .u64 0] 39)) (.cells #[.int .i64 0, .int .i64 0, .int .i64 0] 26)
  have h3 := alloc_last ((w.alloc (.cells #[.int .u64 0, .int .u64 0, .int .u64 0, .int .u64 0] 39)).alloc (.cells #[.int .i64 0, .int .i64 0, .int .i64 0] 26)) (.cells #[.int .u64 0, .int .u64 0, .int .u64 0, .int .u64 0] 39)
  simp only [World.size_alloc] at h2 h3
  refine ⟨(((Below.refl _ _).alloc (Nat.le_refl _) _).alloc (by simp) _).alloc (by simp; omega) _, blk_alloc (blk_alloc h1 _) _, blk_alloc h2 _, ?_⟩
  have z : ∀ i, ((sw noP i : Nat) : Int) = 0 := sw_zero
  rw [z, z, z, z]
  exact h3

end Go.Proofs.YtoodpajbefffhaaDoor
