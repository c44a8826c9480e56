import Derived.Test.YtnecadgoiolpgaaGreatDoorKSq
import Derived.Test.YtnecadgoiolpgaaGreatDoorKSd
import Derived.Deep.LoopGhost
import Derived.Deep.CutRange
import Derived.Deep.CutBlock
namespace Go.Proofs.YtnecadgoiolpgaaGreatDoor
open Go.RowKit
set_option maxRecDepth 100000 in
set_option maxHeartbeats 16000000 in
theorem sapart_any (cf : ByteArray → (Nat → Bool) × Bool) (hcf : ClassOk cf) (e : Nat → Addr) (bv sv : Value) (lb ls : List Int) (ext : Bool) (w : World) (hs : Snt w e) (he : Es w w.heap.size e) (ht : Ety w) (hb : Sl w bv lb) (hnb : BelV bv w.heap.size) (hsv : Sl w sv ls) :
  Calls Tryz.prog 6 #[bv, .bool ext, sv] w fun x w' => x = .returned (.bool true) ∧ Below w.heap.size w w' := by
 obtain ⟨r, hr⟩ := parseN_some cf lb ext
 have HBU := Lib.hid ((sbuild_any cf e bv lb (bkC_of hcf _) ext _ r w hs he ht hb hnb hr).mono fun x w' hq => sblq_or hq)
 have HAW : Hid (∀ X, Below w.heap.size w X → Calls Tryz.prog 12 #[] X fun x w' => x = .returned (.bool true) ∧ Below X.heap.size X w') := Lib.hid (fun X hX => awake10_any e X (hs.below hX) ⟨(he.below hX).var, Nat.lt_of_lt_of_le he.low hX.size, Nat.le_refl _⟩ (ht.below hX))
 obtain ⟨ba, bc, rfl⟩ := sl_shapeL hb
 obtain ⟨sa, sc, rfl⟩ := sl_shapeL hsv
 obtain ⟨l, hl, hlm, HCUT⟩ : ∃ l, Sl w (.slice sa l.length sc) l ∧ l.length ≤ 60 ∧ Hid (l.length = min ls.length 60) := by
  by_cases h3 : 60 < ls.length
  ·have h4 := hsv.cut (k := 60) (by omega)
   have h5 : (ls.take 60).length = 60 := by rw [List.length_take]; omega
   have h6 : Sl w (.slice sa (ls.take 60).length sc) (ls.take 60) := by rw [h5]; exact h4
   exact ⟨ls.take 60, h6, by omega, Lib.hid (by omega)⟩
  ·exact ⟨ls, hsv, by omega, Lib.hid (by omega)⟩
 have HL := Lib.hid hl
 have hcap : 60 < ls.length → 60 ≤ sc := fun h3 => by have := hsv.capL (by omega); omega
 clear hs he ht hb hnb hsv hr hl
 go_enter Tryz.func6, Tryz.ntmps6
 go_upto_if 15 with fail
 go_cut [2] (fun s2 X => s2 = .slice sa l.length sc ∧ X = w)
 case first =>
  by_cases h3 : 60 < ls.length
  ·have h3' : (60 : Int) < (ls.length : Int) := by omega
   have h5 := hcap h3
   have h6 : (60 : Int) ≤ (sc : Int) := by omega
   go_wp2_with fail
   go_meet
   exact ⟨by rw [HCUT.out, Nat.min_eq_right (by omega)], rfl⟩
  ·have h3' : ¬ (60 : Int) < (ls.length : Int) := by omega
   go_wp2_with fail
   go_meet
   exact ⟨by rw [HCUT.out, Nat.min_eq_left (by omega)], rfl⟩
 obtain ⟨rfl, rfl⟩ := hcut
 clear hcap HCUT
 go_wp2_with fail
 refine HBU.out.mono ?_
 rintro x w1 ⟨hb1, (rfl | ⟨gb, st, g, rfl, hA⟩)⟩
 ·have HB1 := Lib.hid hb1
  clear hb1
  go_wp2_with fail
  refine (HAW.out w1 HB1.out).mono ?_
  rintro x w9 ⟨rfl, hb9⟩
  have HB10 := Lib.hid (HB1.out.trans (hb9.mono HB1.out.size))
  clear hb9
  go_wp2
  go_ret
  exact ⟨rfl, HB10.out⟩
 have HB1 := Lib.hid hb1
 have HA := Lib.hid hA
 have HL1 := Lib.hid (HL.out.below hb1)
 clear hb1 hA HBU
 go_wp2_with fail
 refine (states_aut HA.out).mono ?_
 rintro x w2 ⟨rfl, rfl⟩
 by_cases h300 : 300 < g.length
 ·have h301 : (300 : Int) < (g.length : Int) := by omega
  go_wp2_with fail
  refine (HAW.out w2 HB1.out).mono ?_
  rintro x w9 ⟨rfl, hb9⟩
  have HB10 := Lib.hid (HB1.out.trans (hb9.mono HB1.out.size))
  clear hb9
  go_wp2
  go_ret
  exact ⟨rfl, HB10.out⟩
 have h301 : ¬ (300 : Int) < (g.length : Int) := by omega
 clear h300 HL
 have HAL := Lib.hid (sall_any gb st g _ l w2 HA.out HL1.out (by omega))
 have HSE := Lib.hid (fun X (i : Int) (hX : Below w2.heap.size w2 X) => ssearch_any gb st g _ l i X (HA.out.below hX) (HL1.out.below hX) (by omega))
 have HANY := Lib.hid (fun X (hX : Below w2.heap.size w2 X) => sany_any gb st g _ l 0 X (HA.out.below hX) (HL1.out.below hX) (by omega))
 have HOK := Lib.hid (askP_ok HA.out l)
 have HAN : Hid ((askP g st l 0).isSome = (askF (g, st) l 0 2).1.isSome) := Lib.hid (found_any (ask_found (l := l) (G := (g, st)) HA.out.cl HA.out.ze HA.out.lt 0 1) (ask_found (l := l) (G := (g, st)) HA.out.cl HA.out.ze HA.out.lt 0 2))
 go_wp2_with fail
 refine HAL.out.mono ?_
 rintro r W0 ⟨L, K, va, vc, hall, hlen, rfl, hrow, hb0⟩
 have HALL := Lib.hid hall
 have HROW := Lib.hid hrow
 have HB0 := Lib.hid hb0
 have HNIL : Hid (decide (0 < L.length) = (askP g st l 0).isSome) := Lib.hid (by
  cases L with
  | nil => rw [allQ_nil hall]; rfl
  | cons m L' =>
   obtain ⟨_, _, _, _, h5, _⟩ := apart_step HOK.out (i := 0) (Or.inl ⟨rfl, rfl⟩) hall
   rcases h5 with h5 | ⟨h5, _⟩
   ·rw [h5]; simp
   ·omega)
 have hLL : L.length ≤ 1000 := by omega
 clear hall hrow hb0 HAL hlen
 go_wp2_with fail
 go_loopg [9, 34] L.length (fun gh s9 s34 X => ∃ (i a k : Nat) (q : Option Nat), gh = L.length - i ∧ i ≤ L.length ∧ s34 = .int .i64 (i : Nat) ∧ s9 = .int .i64 (a : Nat) ∧ a ≤ l.length ∧ ((i = 0 ∧ q = none) ∨ (0 < i ∧ q = some a)) ∧ allQ (askP g st l) k a q = some (L.drop i) ∧ Aside (Below W0.heap.size W0 X))
 case atStart => exact ⟨0, 0, K, none, rfl, Nat.zero_le _, rfl, rfl, Nat.zero_le _, Or.inl ⟨rfl, rfl⟩, HALL.out, Below.refl _ _⟩
 case round =>
  obtain ⟨i, a, k, q, hgh, hi, rfl, rfl, hal, hqq, hq, hbx⟩ := hrel
  have HGH := Lib.hid hgh
  have HBX := Lib.hid hbx.out
  clear hgh hbx
  by_cases hil : i < L.length
  ·have hil' : (i : Int) < (L.length : Int) := by omega
   obtain ⟨⟨m1, m2⟩, hm⟩ : ∃ m, L[i]? = some m := ⟨_, List.getElem?_eq_getElem hil⟩
   have hdr : L.drop i = (m1, m2) :: L.drop (i + 1) := by
    rw [List.drop_eq_getElem_cons hil]
    congr 1
    exact Option.some.inj ((List.getElem?_eq_getElem hil).symm.trans hm)
   rw [hdr] at hq
   obtain ⟨t1, t2, t3, t4, t5, k', t6⟩ := apart_step HOK.out hqq hq
   dsimp only at t1 t2 t3 t4 t5 t6
   obtain ⟨vb, vc', hv, c1, c2, cz⟩ := sp_cells (own_drop HROW.out HBX.out) hm
   obtain ⟨rfl, _, rfl⟩ := Value.slice.inj hv
   have HT4 := Lib.hid t4
   have HT5 := Lib.hid t5
   have HT6 := Lib.hid t6
   clear hv hm hdr hq hqq t4 t5 t6
   go_upto_region 11 with fail
   obtain ⟨W5, hW5⟩ : ∃ W5, W5 = wr.alloc (.cells #[.int .i64 (m1 : Nat), .int .i64 (m2 : Nat)] 28) := ⟨_, rfl⟩
   have hb5 : Below wr.heap.size wr W5 := by rw [hW5]; exact (Below.refl _ _).alloc (Nat.le_refl _) _
   have hh5 : W5.heap[wr.heap.size]? = some (.cells #[.int .i64 (m1 : Nat), .int .i64 (m2 : Nat)] 28 (0, 0)) := by rw [hW5]; exact alloc_last wr _
   rw [← hW5]
   have HH5 := Lib.hid hh5
   have HB5 : Hid (Below W0.heap.size W0 W5) := Lib.hid (HBX.out.trans (hb5.mono HBX.out.size))
   have q0 : W5.cell? ⟨wr.heap.size, 0, none⟩ = some (.int .i64 (m1 : Nat)) := (Lib.cell_of_heap hh5 0).trans rfl
   have q1 : W5.cell? ⟨wr.heap.size, 1, none⟩ = some (.int .i64 (m2 : Nat)) := (Lib.cell_of_heap hh5 1).trans rfl
   have qz := lt_blkB hh5
   clear hb5 hh5 hW5 c1 c2 cz HBX
   generalize wr.heap.size = h11 at *
   go_cut [73] from 35 to 104 (fun s73 X => s73 = .bool false ∧ X = W5)
   case first =>
    have d1 : ¬ (m1 : Int) < (a : Int) := by omega
    have d2 : ¬ (m2 : Int) < (m1 : Int) := by omega
    have d3 : ¬ (l.length : Int) < (m2 : Int) := by omega
    by_cases hi0 : i = 0
    ·subst hi0
     go_wp2_with fail
     go_meet
     exact ⟨rfl, rfl⟩
    ·have d4 : (0 : Int) < (i : Int) := by omega
     have hip : 0 < i := by omega
     by_cases h1 : (m1 : Int) = (a : Int)
     ·have d6 : ¬ (m2 : Int) = (a : Int) := by have := HT4.out; omega
      rw [h1] at q0
      go_wp2_with fail
      go_meet
      exact ⟨congrArg Value.bool (by simp; omega), rfl⟩
     ·go_wp2_with fail
      go_meet
      exact ⟨rfl, rfl⟩
   obtain ⟨rfl, hwc⟩ := hcut
   rw [hwc]
   clear hwc q0 q1
   have HB25 : Hid (Below w2.heap.size w2 W5) := Lib.hid (HB0.out.trans (HB5.out.mono HB0.out.size))
   have HSX := HSE.out W5 (a : Nat) HB25.out
   obtain ⟨⟨h1, x1⟩, hR1⟩ : ∃ R, R = askF (g, st) l ((a : Nat) : Int) 1 := ⟨_, rfl⟩
   have e1 : askP g st l a = h1 := by unfold askP; rw [← hR1]
   rw [← hR1] at HSX
   rcases HT5.out with h5 | ⟨hi0, h5, h6, h7⟩
   ·obtain rfl : h1 = some (m1, m2) := e1.symm.trans h5
    rw [hitV_some] at HSX
    have HSX := Lib.hid HSX
    clear hR1 e1 h5
    go_wp2_with fail
    refine HSX.out.mono ?_
    rintro r W6 ⟨rfl, hb6⟩
    go_upto_region 14 with fail
    obtain ⟨W7, hW7⟩ : ∃ W7, W7 = W6.alloc (.cells #[.bool true, .int .i64 (m1 : Nat), .int .i64 (m2 : Nat), .int .i64 (x1 : Nat)] 30) := ⟨_, rfl⟩
    have hb7 : Below W6.heap.size W6 W7 := by rw [hW7]; exact (Below.refl _ _).alloc (Nat.le_refl _) _
    have hh7 : W7.heap[W6.heap.size]? = some (.cells #[.bool true, .int .i64 (m1 : Nat), .int .i64 (m2 : Nat), .int .i64 (x1 : Nat)] 30 (0, 0)) := by rw [hW7]; exact alloc_last W6 _
    have hh5 := blk_below (blk_below HH5.out hb6) hb7
    rw [← hW7]
    have HB7 : Hid (Below W0.heap.size W0 W7) := Lib.hid (HB5.out.trans ((hb6.trans (hb7.mono hb6.size)).mono HB5.out.size))
    have q0 : W7.cell? ⟨h11, 0, none⟩ = some (.int .i64 (m1 : Nat)) := (Lib.cell_of_heap hh5 0).trans rfl
    have q1 : W7.cell? ⟨h11, 1, none⟩ = some (.int .i64 (m2 : Nat)) := (Lib.cell_of_heap hh5 1).trans rfl
    have qz := lt_blkB hh5
    have p1 : W7.cell? ⟨W6.heap.size, 1, none⟩ = some (.int .i64 (m1 : Nat)) := (Lib.cell_of_heap hh7 1).trans rfl
    have p2 : W7.cell? ⟨W6.heap.size, 2, none⟩ = some (.int .i64 (m2 : Nat)) := (Lib.cell_of_heap hh7 2).trans rfl
    have pz := lt_blkB hh7
    clear hb6 hb7 hh7 hh5 hW7
    generalize W6.heap.size = h12 at *
    go_wp2_with fail
    go_roundg (L.length - (i + 1))
    case measure => have := HGH.out; omega
    case rel => exact ⟨i + 1, m2, k', some m2, rfl, by omega, by simp, rfl, t3, Or.inr ⟨by omega, rfl⟩, HT6.out, HB7.out⟩
   ·obtain rfl : h1 = some (a, a) := e1.symm.trans h5
    rw [hitV_some] at HSX
    have HSX := Lib.hid HSX
    have HS2 := Lib.hid (fun X (hX : Below w2.heap.size w2 X) => HSE.out X ((a : Int) + 1) hX)
    obtain ⟨⟨h2, x2⟩, hR2⟩ : ∃ R, R = askF (g, st) l ((a : Int) + 1) 1 := ⟨_, rfl⟩
    have e2 : askP g st l (a + 1) = h2 := by unfold askP; rw [show ((a + 1 : Nat) : Int) = (a : Int) + 1 by omega, ← hR2]
    obtain rfl : h2 = some (m1, m2) := e2.symm.trans h6
    rw [← hR2] at HS2
    rw [hitV_some] at HS2
    clear hR1 e1 h5 hR2 e2 h6
    have h7' : ¬ (a : Int) = (m1 : Int) := by omega
    have HI0 : Hid (((i : Int) == 0) = false) := Lib.hid (by simp; omega)
    have hx1 : (a : Int) + 1 ≤ 9223372036854775807 := by omega
    have hx0 : -9223372036854775808 ≤ (a : Int) + 1 := by omega
    have HWR : Hid (IntKind.i64.wrap ((a : Int) + 1) = (a : Int) + 1) := Lib.hid (by simp [IntKind.wrap, IntKind.bits, IntKind.signed]; omega)
    go_wp2_with fail
    refine HSX.out.mono ?_
    rintro r W6 ⟨rfl, hb6⟩
    go_upto_region 14 with fail
    obtain ⟨W7, hW7⟩ : ∃ W7, W7 = W6.alloc (.cells #[.bool true, .int .i64 (a : Nat), .int .i64 (a : Nat), .int .i64 (x1 : Nat)] 30) := ⟨_, rfl⟩
    have hb7 : Below W6.heap.size W6 W7 := by rw [hW7]; exact (Below.refl _ _).alloc (Nat.le_refl _) _
    have hh7 : W7.heap[W6.heap.size]? = some (.cells #[.bool true, .int .i64 (a : Nat), .int .i64 (a : Nat), .int .i64 (x1 : Nat)] 30 (0, 0)) := by rw [hW7]; exact alloc_last W6 _
    have hh5 := blk_below (blk_below HH5.out hb6) hb7
    rw [← hW7]
    have HB7 : Hid (Below W0.heap.size W0 W7) := Lib.hid (HB5.out.trans ((hb6.trans (hb7.mono hb6.size)).mono HB5.out.size))
    have q0 : W7.cell? ⟨h11, 0, none⟩ = some (.int .i64 (m1 : Nat)) := (Lib.cell_of_heap hh5 0).trans rfl
    have q1 : W7.cell? ⟨h11, 1, none⟩ = some (.int .i64 (m2 : Nat)) := (Lib.cell_of_heap hh5 1).trans rfl
    have qz := lt_blkB hh5
    have p1 : W7.cell? ⟨W6.heap.size, 1, none⟩ = some (.int .i64 (a : Nat)) := (Lib.cell_of_heap hh7 1).trans rfl
    have p2 : W7.cell? ⟨W6.heap.size, 2, none⟩ = some (.int .i64 (a : Nat)) := (Lib.cell_of_heap hh7 2).trans rfl
    have pz := lt_blkB hh7
    have HH7 := Lib.hid hh7
    have HH5' := Lib.hid hh5
    clear hb6 hb7 hh7 hh5 hW7
    generalize W6.heap.size = h12 at *
    go_upto_region 15 with fail
    refine Reg.wp_region_vals (fun X => Below W7.drew.heap.size W7.drew X) (fun j => ([some (.int .i64 (i : Nat)), some (.bool false), some (.bool false), some (.pointer (some ⟨h12, 1, none⟩)), some (.agg #[.int .i64 (a : Nat), .int .i64 (a : Nat)]), some (.int .i64 (a : Nat)), some (.int .i64 (a : Nat)), some (.agg #[.int .i64 (a : Nat), .int .i64 (a : Nat)]), some (.bool false), some (.bool false), some (.bool false), some (.pointer (some ⟨gb, 0, none⟩)), some (.slice sa l.length sc), some (.int .i64 (a : Nat)), some (.int .i64 ((a : Int) + 1)), some (.agg #[.bool true, .int .i64 (m1 : Nat), .int .i64 (m2 : Nat), .int .i64 (x2 : Nat)]), some (.agg #[.int .i64 (m1 : Nat), .int .i64 (m2 : Nat)]), some (.agg #[.int .i64 (m1 : Nat), .int .i64 (m2 : Nat)]), some (.bool false), some (.bool false)] : List (Option Value)).getD j none) (fun _ _ _ => True) (by kernel_rfl) (by kernel_rfl) (by kernel_rfl) (by kernel_rfl) ?rs0 ?rsE ?rsZ
    case rs0 => exact Below.refl _ _
    case rsE =>
     refine Reg.EachV.plain rfl (fun T X hS hk K hK => ?_) ?_
     ·skip
      have g10 := hk.old 10 (by kernel_rfl) rfl
      have hK := hK _ X hS (Reg.Is.of_val rfl) (fun _ _ _ h => h)
      clear hk
      go_simp
      exact hK
     refine Reg.EachV.plain rfl (fun T X hS hk K hK => ?_) ?_
     ·skip
      have g82 := hk.val 0 82 (by kernel_rfl) (by kernel_rfl) rfl
      have hi00 := HI0.out
      have hK := hK _ X hS (Reg.Is.of_val rfl) (fun _ _ _ h => h)
      clear hk
      go_simp
      exact hK
     refine Reg.EachV.plain rfl (fun T X hS hk K hK => ?_) ?_
     ·skip
      have g83 := hk.val 1 83 (by kernel_rfl) (by kernel_rfl) rfl
      have hK := hK _ X hS (Reg.Is.of_val rfl) (fun _ _ _ h => h)
      clear hk
      go_simp
      exact hK
     refine Reg.EachV.guarded 2 84 false rfl (by kernel_rfl) (by kernel_rfl) rfl (fun T X hS hk K hK => ?_) ?_
     ·skip
      have g12 := hk.old 12 (by kernel_rfl) rfl
      have hh := blk_below HH7.out ((Below.refl _ _).drew.trans hS)
      have r1 : X.cell? ⟨h12, 1, none⟩ = some (.int .i64 (a : Nat)) := (Lib.cell_of_heap hh 1).trans rfl
      have r2 : X.cell? ⟨h12, 2, none⟩ = some (.int .i64 (a : Nat)) := (Lib.cell_of_heap hh 2).trans rfl
      have rz := lt_blkB hh
      clear hh
      have hK := hK _ X hS (Reg.Is.of_val rfl) (fun _ _ _ h => h)
      clear hk
      go_simp
      exact hK
     refine Reg.EachV.guarded 2 84 false rfl (by kernel_rfl) (by kernel_rfl) rfl (fun T X hS hk K hK => ?_) ?_
     ·skip
      have g85 := hk.val 3 85 (by kernel_rfl) (by kernel_rfl) rfl
      have hh := blk_below HH7.out ((Below.refl _ _).drew.trans hS)
      have r1 : X.cell? ⟨h12, 1, none⟩ = some (.int .i64 (a : Nat)) := (Lib.cell_of_heap hh 1).trans rfl
      have r2 : X.cell? ⟨h12, 2, none⟩ = some (.int .i64 (a : Nat)) := (Lib.cell_of_heap hh 2).trans rfl
      have rz := lt_blkB hh
      clear hh
      have hK := hK _ X hS (Reg.Is.of_val rfl) (fun _ _ _ h => h)
      clear hk
      go_simp
      exact hK
     refine Reg.EachV.guarded 2 84 false rfl (by kernel_rfl) (by kernel_rfl) rfl (fun T X hS hk K hK => ?_) ?_
     ·skip
      have g9 := hk.old 9 (by kernel_rfl) rfl
      have hK := hK _ X hS (Reg.Is.of_val rfl) (fun _ _ _ h => h)
      clear hk
      go_simp
      exact hK
     refine Reg.EachV.guarded 2 84 false rfl (by kernel_rfl) (by kernel_rfl) rfl (fun T X hS hk K hK => ?_) ?_
     ·skip
      have g9 := hk.old 9 (by kernel_rfl) rfl
      have hK := hK _ X hS (Reg.Is.of_val rfl) (fun _ _ _ h => h)
      clear hk
      go_simp
      exact hK
     refine Reg.EachV.guarded 2 84 false rfl (by kernel_rfl) (by kernel_rfl) rfl (fun T X hS hk K hK => ?_) ?_
     ·skip
      have g87 := hk.val 5 87 (by kernel_rfl) (by kernel_rfl) rfl
      have g88 := hk.val 6 88 (by kernel_rfl) (by kernel_rfl) rfl
      have hK := hK _ X hS (Reg.Is.of_val rfl) (fun _ _ _ h => h)
      clear hk
      go_simp
      exact hK
     refine Reg.EachV.guarded 2 84 false rfl (by kernel_rfl) (by kernel_rfl) rfl (fun T X hS hk K hK => ?_) ?_
     ·skip
      have g86 := hk.val 4 86 (by kernel_rfl) (by kernel_rfl) rfl
      have g89 := hk.val 7 89 (by kernel_rfl) (by kernel_rfl) rfl
      have hK := hK _ X hS (Reg.Is.of_val rfl) (fun _ _ _ h => h)
      clear hk
      go_simp
      exact hK
     refine Reg.EachV.plain rfl (fun T X hS hk K hK => ?_) ?_
     ·skip
      have g84 := hk.val 2 84 (by kernel_rfl) (by kernel_rfl) rfl
      have g90 := hk.val 8 90 (by kernel_rfl) (by kernel_rfl) rfl
      have hK := hK _ X hS (Reg.Is.of_val rfl) (fun _ _ _ h => h)
      clear hk
      go_simp
      exact hK
     refine Reg.EachV.plain rfl (fun T X hS hk K hK => ?_) ?_
     ·skip
      have g91 := hk.val 9 91 (by kernel_rfl) (by kernel_rfl) rfl
      have hK := hK _ X hS (Reg.Is.of_val rfl) (fun _ _ _ h => h)
      clear hk
      go_simp
      exact hK
     refine Reg.EachV.guarded 10 92 false rfl (by kernel_rfl) (by kernel_rfl) rfl (fun T X hS hk K hK => ?_) ?_
     ·skip
      have g7 := hk.old 7 (by kernel_rfl) rfl
      have hK := hK _ X hS (Reg.Is.of_val rfl) (fun _ _ _ h => h)
      clear hk
      go_simp
      exact hK
     refine Reg.EachV.guarded 10 92 false rfl (by kernel_rfl) (by kernel_rfl) rfl (fun T X hS hk K hK => ?_) ?_
     ·skip
      have g2 := hk.old 2 (by kernel_rfl) rfl
      have hK := hK _ X hS (Reg.Is.of_val rfl) (fun _ _ _ h => h)
      clear hk
      go_simp
      exact hK
     refine Reg.EachV.guarded 10 92 false rfl (by kernel_rfl) (by kernel_rfl) rfl (fun T X hS hk K hK => ?_) ?_
     ·skip
      have g9 := hk.old 9 (by kernel_rfl) rfl
      have hK := hK _ X hS (Reg.Is.of_val rfl) (fun _ _ _ h => h)
      clear hk
      go_simp
      exact hK
     refine Reg.EachV.guarded 10 92 false rfl (by kernel_rfl) (by kernel_rfl) rfl (fun T X hS hk K hK => ?_) ?_
     ·skip
      have g95 := hk.val 13 95 (by kernel_rfl) (by kernel_rfl) rfl
      have hwr := HWR.out
      have hK := hK _ X hS (Reg.Is.of_val rfl) (fun _ _ _ h => h)
      clear hk
      go_simp
      exact hK
     refine Reg.EachV.guarded 10 92 false rfl (by kernel_rfl) (by kernel_rfl) rfl (fun T X hS hk K hK => ?_) ?_
     ·skip
      have g93 := hk.val 11 93 (by kernel_rfl) (by kernel_rfl) rfl
      have g94 := hk.val 12 94 (by kernel_rfl) (by kernel_rfl) rfl
      have g96 := hk.val 14 96 (by kernel_rfl) (by kernel_rfl) rfl
      clear hk
      go_simp
      refine (HS2.out X (HB0.out.trans ((HB7.out.trans (((Below.refl _ _).drew.trans hS).mono HB7.out.size)).mono HB0.out.size))).mono ?_
      rintro e w1 ⟨rfl, hb⟩
      exact hK _ _ (hS.trans (hb.mono hS.size)) (Reg.Is.of_val rfl) (fun _ _ _ h => h)
     refine Reg.EachV.guarded 10 92 false rfl (by kernel_rfl) (by kernel_rfl) rfl (fun T X hS hk K hK => ?_) ?_
     ·skip
      have g97 := hk.val 15 97 (by kernel_rfl) (by kernel_rfl) rfl
      have hK := hK _ X hS (Reg.Is.of_val rfl) (fun _ _ _ h => h)
      clear hk
      go_simp
      exact hK
     refine Reg.EachV.guarded 10 92 false rfl (by kernel_rfl) (by kernel_rfl) rfl (fun T X hS hk K hK => ?_) ?_
     ·skip
      have g11 := hk.old 11 (by kernel_rfl) rfl
      have hh := blk_below HH5'.out ((Below.refl _ _).drew.trans hS)
      have r1 : X.cell? ⟨h11, 0, none⟩ = some (.int .i64 (m1 : Nat)) := (Lib.cell_of_heap hh 0).trans rfl
      have r2 : X.cell? ⟨h11, 1, none⟩ = some (.int .i64 (m2 : Nat)) := (Lib.cell_of_heap hh 1).trans rfl
      have rz := lt_blkB hh
      clear hh
      have hK := hK _ X hS (Reg.Is.of_val rfl) (fun _ _ _ h => h)
      clear hk
      go_simp
      exact hK
     refine Reg.EachV.guarded 10 92 false rfl (by kernel_rfl) (by kernel_rfl) rfl (fun T X hS hk K hK => ?_) ?_
     ·skip
      have g98 := hk.val 16 98 (by kernel_rfl) (by kernel_rfl) rfl
      have g99 := hk.val 17 99 (by kernel_rfl) (by kernel_rfl) rfl
      have hK := hK _ X hS (Reg.Is.of_val rfl) (fun _ _ _ h => h)
      clear hk
      go_simp
      exact hK
     refine Reg.EachV.plain rfl (fun T X hS hk K hK => ?_) ?_
     ·skip
      have g92 := hk.val 10 92 (by kernel_rfl) (by kernel_rfl) rfl
      have g100 := hk.val 18 100 (by kernel_rfl) (by kernel_rfl) rfl
      have hK := hK _ X hS (Reg.Is.of_val rfl) (fun _ _ _ h => h)
      clear hk
      go_simp
      exact hK
     exact Reg.EachV.nil
    case rsZ =>
     intro u w1 hS hI
     have e0 : u 0 = .int .i64 (i : Nat) := (hI 0 (by decide)).val rfl
     have e1 : u 1 = .bool false := (hI 1 (by decide)).val rfl
     have e2 : u 2 = .bool false := (hI 2 (by decide)).val rfl
     have e3 : u 3 = .pointer (some ⟨h12, 1, none⟩) := (hI 3 (by decide)).val rfl
     have e4 : u 4 = .agg #[.int .i64 (a : Nat), .int .i64 (a : Nat)] := (hI 4 (by decide)).val rfl
     have e5 : u 5 = .int .i64 (a : Nat) := (hI 5 (by decide)).val rfl
     have e6 : u 6 = .int .i64 (a : Nat) := (hI 6 (by decide)).val rfl
     have e7 : u 7 = .agg #[.int .i64 (a : Nat), .int .i64 (a : Nat)] := (hI 7 (by decide)).val rfl
     have e8 : u 8 = .bool false := (hI 8 (by decide)).val rfl
     have e9 : u 9 = .bool false := (hI 9 (by decide)).val rfl
     have e10 : u 10 = .bool false := (hI 10 (by decide)).val rfl
     have e11 : u 11 = .pointer (some ⟨gb, 0, none⟩) := (hI 11 (by decide)).val rfl
     have e12 : u 12 = .slice sa l.length sc := (hI 12 (by decide)).val rfl
     have e13 : u 13 = .int .i64 (a : Nat) := (hI 13 (by decide)).val rfl
     have e14 : u 14 = .int .i64 ((a : Int) + 1) := (hI 14 (by decide)).val rfl
     have e15 : u 15 = .agg #[.bool true, .int .i64 (m1 : Nat), .int .i64 (m2 : Nat), .int .i64 (x2 : Nat)] := (hI 15 (by decide)).val rfl
     have e16 : u 16 = .agg #[.int .i64 (m1 : Nat), .int .i64 (m2 : Nat)] := (hI 16 (by decide)).val rfl
     have e17 : u 17 = .agg #[.int .i64 (m1 : Nat), .int .i64 (m2 : Nat)] := (hI 17 (by decide)).val rfl
     have e18 : u 18 = .bool false := (hI 18 (by decide)).val rfl
     have e19 : u 19 = .bool false := (hI 19 (by decide)).val rfl
     clear hI
     simp only [Reg.putAll, Act.put, List.setIfInBounds_toArray, List.set_cons_succ, List.set_cons_zero, Nat.zero_add, Nat.reduceAdd, e0, e1, e2, e3, e4, e5, e6, e7, e8, e9, e10, e11, e12, e13, e14, e15, e16, e17, e18, e19]
     clear e0 e1 e2 e3 e4 e5 e6 e7 e8 e9 e10 e11 e12 e13 e14 e15 e16 e17 e18 e19
     have HB8 : Hid (Below W0.heap.size W0 w1) := Lib.hid (HB7.out.trans (((Below.refl _ _).drew.trans hS).mono HB7.out.size))
     have hh := blk_below HH5'.out ((Below.refl _ _).drew.trans hS)
     have r2 : w1.cell? ⟨h11, 1, none⟩ = some (.int .i64 (m2 : Nat)) := (Lib.cell_of_heap hh 1).trans rfl
     have rz := lt_blkB hh
     clear hh hS u
     go_wp2_with fail
     go_roundg (L.length - (i + 1))
     case measure => have := HGH.out; omega
     case rel => exact ⟨i + 1, m2, k', some m2, rfl, by omega, by simp, rfl, t3, Or.inr ⟨by omega, rfl⟩, HT6.out, HB8.out⟩
  ·obtain rfl : i = L.length := by omega
   have hnl : ¬ (L.length : Int) < (L.length : Int) := by omega
   have HBT : Hid (Below w2.heap.size w2 wr) := Lib.hid (HB0.out.trans (HBX.out.mono HB0.out.size))
   have HAY := HANY.out wr HBT.out
   unfold anyV at HAY
   rw [← HAN.out, ← HNIL.out] at HAY
   generalize (askF (g, st) l 0 2).2 = x9 at HAY
   have HBW : Hid (Below wc.heap.size wc wr) := Lib.hid (HB1.out.trans (HBT.out.mono HB1.out.size))
   clear hq hqq HSE
   by_cases hp : 0 < L.length
   ·have hp' : (0 : Int) < (L.length : Int) := by omega
    rw [decide_eq_true hp] at HAY
    have HAY := Lib.hid HAY
    go_wp2_with fail
    refine HAY.out.mono ?_
    rintro r W9 ⟨rfl, hb9⟩
    have HB9 := Lib.hid (HBW.out.trans (hb9.mono HBW.out.size))
    clear hb9
    have hf : ∀ (b : Bool) (x : Nat) (X : World), Sem.run Tryz.prog (Instr.field 30 (.agg #[.bool b, .int .i64 0, .int .i64 0, .int .i64 (x : Nat)]) 0) X = .ok (.bool b) X := fun _ _ _ => rfl
    go_wp2_with fail
    refine (HAW.out W9 HB9.out).mono ?_
    rintro r W10 ⟨rfl, hb10⟩
    have HB10 := Lib.hid (HB9.out.trans (hb10.mono HB9.out.size))
    clear hb10
    go_wp2
    go_ret
    exact ⟨rfl, HB10.out⟩
   ·have hp' : ¬ (0 : Int) < (L.length : Int) := by omega
    rw [decide_eq_false hp] at HAY
    have HAY := Lib.hid HAY
    go_wp2_with fail
    refine HAY.out.mono ?_
    rintro r W9 ⟨rfl, hb9⟩
    have HB9 := Lib.hid (HBW.out.trans (hb9.mono HBW.out.size))
    clear hb9
    have hf : ∀ (b : Bool) (x : Nat) (X : World), Sem.run Tryz.prog (Instr.field 30 (.agg #[.bool b, .int .i64 0, .int .i64 0, .int .i64 (x : Nat)]) 0) X = .ok (.bool b) X := fun _ _ _ => rfl
    go_wp2_with fail
    refine (HAW.out W9 HB9.out).mono ?_
    rintro r W10 ⟨rfl, hb10⟩
    have HB10 := Lib.hid (HB9.out.trans (hb10.mono HB9.out.size))
    clear hb10
    go_wp2
    go_ret
    exact ⟨rfl, HB10.out⟩
end Go.Proofs.YtnecadgoiolpgaaGreatDoor
