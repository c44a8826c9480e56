import Derived.Test.YtnecadgoiolpgaaGreatDoorKSd
namespace Go.Proofs.YtnecadgoiolpgaaGreatDoor
open Go.RowKit
set_option maxRecDepth 100000 in
set_option maxHeartbeats 16000000 in
theorem svisits_any (cf : ByteArray → (Nat → Bool) × Bool) (hcf : ClassOk cf) (e : Nat → Addr) (bv sv : Value) (lb ls : List Int) (ext : Bool) (a : Int) (w : World) (hs : Snt w e) (he : Es w w.heap.size e) (ht : Ety w) (hb : Sl w bv lb) (hnb : BelV bv w.heap.size) (hsv : Sl w sv ls) :
  Calls Tryz.prog 3 #[bv, .bool ext, sv, .int .i64 a] w fun x w' => x = .returned (.bool true) ∧ Below w.heap.size w w' := by
 obtain ⟨r, hr⟩ := parseN_some cf lb ext
 have HBU := Lib.hid ((sbuild_any cf e bv lb (bkC_of hcf _) ext _ r w hs he ht hb hnb hr).mono fun x w' hq => sblq_or hq)
 have HAW : Hid (∀ X, Below w.heap.size w X → Calls Tryz.prog 12 #[] X fun x w' => x = .returned (.bool true) ∧ Below X.heap.size X w') := Lib.hid (fun X hX => awake10_any e X (hs.below hX) ⟨(he.below hX).var, Nat.lt_of_lt_of_le he.low hX.size, Nat.le_refl _⟩ (ht.below hX))
 obtain ⟨ba, bc, rfl⟩ := sl_shapeL hb
 obtain ⟨sa, sc, rfl⟩ := sl_shapeL hsv
 obtain ⟨l, hl, hlm, HCUT⟩ : ∃ l, Sl w (.slice sa l.length sc) l ∧ l.length ≤ 3000 ∧ Hid (l.length = min ls.length 3000) := by
  by_cases h3 : 3000 < ls.length
  ·have h4 := hsv.cut (k := 3000) (by omega)
   have h5 : (ls.take 3000).length = 3000 := by rw [List.length_take]; omega
   have h6 : Sl w (.slice sa (ls.take 3000).length sc) (ls.take 3000) := by rw [h5]; exact h4
   exact ⟨ls.take 3000, h6, by omega, Lib.hid (by omega)⟩
  ·exact ⟨ls, hsv, by omega, Lib.hid (by omega)⟩
 have HL := Lib.hid hl
 have hcap : 3000 < ls.length → 3000 ≤ sc := fun h3 => by have := hsv.capL (by omega); omega
 clear hs he ht hb hnb hsv hr hl
 go_enter Tryz.func3, Tryz.ntmps3
 go_upto_if 16 with fail
 go_cut [2] (fun s2 X => s2 = .slice sa l.length sc ∧ X = w)
 case first =>
  by_cases h3 : 3000 < ls.length
  ·have h3' : (3000 : Int) < (ls.length : Int) := by omega
   have h5 := hcap h3
   have h6 : (3000 : Int) ≤ (sc : Int) := by omega
   go_wp2_with fail
   go_meet
   exact ⟨by rw [HCUT.out, Nat.min_eq_right (by omega)], rfl⟩
  ·have h3' : ¬ (3000 : Int) < (ls.length : Int) := by omega
   go_wp2_with fail
   go_meet
   exact ⟨by rw [HCUT.out, Nat.min_eq_left (by omega)], rfl⟩
 obtain ⟨rfl, rfl⟩ := hcut
 clear hcap HCUT
 go_wp2_with fail
 refine HBU.out.mono ?_
 rintro x w1 ⟨hb1, (rfl | ⟨gb, st, g, rfl, hA⟩)⟩
 ·have HB1 := Lib.hid hb1
  clear hb1
  go_wp2_with fail
  refine (HAW.out w1 HB1.out).mono ?_
  rintro x w2 ⟨rfl, hb2⟩
  have HB2 := Lib.hid (HB1.out.trans (hb2.mono HB1.out.size))
  clear hb2
  go_wp2
  go_ret
  exact ⟨rfl, HB2.out⟩
 have HB1 := Lib.hid hb1
 have HA := Lib.hid hA
 have HL1 := Lib.hid (HL.out.below hb1)
 clear hb1 hA HBU
 go_wp2_with fail
 refine (states_aut HA.out).mono ?_
 rintro x w2 ⟨rfl, rfl⟩
 by_cases h300 : 300 < g.length
 ·have h301 : (300 : Int) < (g.length : Int) := by omega
  go_wp2_with fail
  refine (HAW.out w2 HB1.out).mono ?_
  rintro x w3 ⟨rfl, hb2⟩
  have HB2 := Lib.hid (HB1.out.trans (hb2.mono HB1.out.size))
  clear hb2
  go_wp2
  go_ret
  exact ⟨rfl, HB2.out⟩
 have h301 : ¬ (300 : Int) < (g.length : Int) := by omega
 obtain ⟨N, hN⟩ : ∃ N, N = g.length := ⟨_, rfl⟩
 have HN := Lib.hid hN
 have hmul : (l.length + 1) * N ≤ 3001 * 300 := Nat.mul_le_mul (by omega) (by omega)
 obtain ⟨M, hM⟩ : ∃ M, M = (l.length + 1) * N := ⟨_, rfl⟩
 have hMM : ((l.length : Int) + 1) * (N : Int) = (M : Int) := by rw [hM]; push_cast; rfl
 rw [← hM] at hmul
 have HM := Lib.hid hM
 have hv0 := askF_vis (G := (g, st)) (l := l) HA.out.cl HA.out.ze HA.out.lt a 0
 have hv1 := askF_vis (G := (g, st)) (l := l) HA.out.cl HA.out.ze HA.out.lt a 1
 have hv2 := askF_vis (G := (g, st)) (l := l) HA.out.cl HA.out.ze HA.out.lt a 2
 rw [← hN] at hv0 hv1 hv2
 rw [← hM] at hv0 hv1 hv2
 have HOUT : Hid ((a < 0 ∨ (l.length : Int) < a) → askF (g, st) l a 0 = (none, 0) ∧ askF (g, st) l a 1 = (none, 0) ∧ askF (g, st) l a 2 = (none, 0)) := Lib.hid (fun h => ⟨askF_out h, askF_out h, askF_out h⟩)
 have HX := Lib.hid (fun X (hX : Below w2.heap.size w2 X) => slongest_any gb st g _ l a X (HA.out.below hX) (HL1.out.below hX) (by omega))
 have HY := Lib.hid (fun X (hX : Below w2.heap.size w2 X) => sany_any gb st g _ l a X (HA.out.below hX) (HL1.out.below hX) (by omega))
 have HZ := Lib.hid (fun X (hX : Below w2.heap.size w2 X) => ssearch_any gb st g _ l a X (HA.out.below hX) (HL1.out.below hX) (by omega))
 obtain ⟨⟨h0, x0⟩, hR0⟩ : ∃ R, R = askF (g, st) l a 0 := ⟨_, rfl⟩
 obtain ⟨⟨h1, x1⟩, hR1⟩ : ∃ R, R = askF (g, st) l a 1 := ⟨_, rfl⟩
 obtain ⟨⟨h2, x2⟩, hR2⟩ : ∃ R, R = askF (g, st) l a 2 := ⟨_, rfl⟩
 rw [← hR0] at HX hv0 HOUT
 rw [← hR1] at HZ hv1 HOUT
 rw [← hR2] at HY hv2 HOUT
 obtain ⟨s0, e0, _, _, hval0⟩ := hitC_parts h0
 obtain ⟨s1, e1, _, _, hval1⟩ := hitC_parts h1
 rw [hval0] at HX
 rw [hval1] at HZ
 unfold anyV at HY
 dsimp only at hv0 hv1 hv2 HY
 obtain ⟨k0, hk0⟩ : ∃ k, k = h0.isSome := ⟨_, rfl⟩
 obtain ⟨k1, hk1⟩ : ∃ k, k = h1.isSome := ⟨_, rfl⟩
 obtain ⟨k2, hk2⟩ : ∃ k, k = h2.isSome := ⟨_, rfl⟩
 rw [← hk0] at HX
 rw [← hk1] at HZ
 rw [← hk2] at HY
 have HO : Hid ((a < 0 ∨ (l.length : Int) < a) → x0 = 0 ∧ x1 = 0 ∧ x2 = 0 ∧ k0 = false ∧ k1 = false ∧ k2 = false) := Lib.hid (fun h => by
  obtain ⟨q0, q1, q2⟩ := HOUT.out h
  simp only [Prod.mk.injEq] at q0 q1 q2
  rw [hk0, hk1, hk2, q0.1, q1.1, q2.1]
  exact ⟨q0.2, q1.2, q2.2, rfl, rfl, rfl⟩)
 clear hR0 hR1 hR2 hval0 hval1 HOUT hk0 hk1 hk2 hM hN HL
 have hM2 : ((l.length : Int) + 1) * (g.length : Int) = (M : Int) := by rw [← HN.out]; exact hMM
 go_wp2_with fail
 refine (states_aut HA.out).mono ?_
 rintro x w3 ⟨rfl, rfl⟩
 go_wp2_with fail
 refine (HX.out _ (Below.refl _ _)).mono ?_
 rintro x w4 ⟨rfl, hb4⟩
 have HB4 := Lib.hid hb4
 clear hb4
 go_wp2_with fail
 refine (HY.out w4 HB4.out).mono ?_
 rintro x w5 ⟨rfl, hb5⟩
 have HB5 := Lib.hid (HB4.out.trans (hb5.mono HB4.out.size))
 clear hb5
 go_wp2_with fail
 refine (HZ.out w5 HB5.out).mono ?_
 rintro x w6 ⟨rfl, hb6⟩
 have HB6 := Lib.hid (HB5.out.trans (hb6.mono HB5.out.size))
 clear hb6
 go_upto_region 8 with fail
 obtain ⟨X6, hX6⟩ : ∃ X6, X6 = ((w6.alloc (.cells #[.bool k0, .int .i64 (s0 : Nat), .int .i64 (e0 : Nat), .int .i64 (x0 : Nat)] 30)).alloc (.cells #[.bool k2, .int .i64 0, .int .i64 0, .int .i64 (x2 : Nat)] 30)).alloc (.cells #[.bool k1, .int .i64 (s1 : Nat), .int .i64 (e1 : Nat), .int .i64 (x1 : Nat)] 30) := ⟨_, rfl⟩
 rw [← hX6]
 have hb7 : Below w6.heap.size w6 X6 := by rw [hX6]; exact (((Below.refl _ _).alloc (Nat.le_refl _) _).alloc (by simp) _).alloc (by simp; omega) _
 have d0 : X6.heap[w6.heap.size]? = some (.cells #[.bool k0, .int .i64 (s0 : Nat), .int .i64 (e0 : Nat), .int .i64 (x0 : Nat)] 30 (0, 0)) := by rw [hX6]; exact blk_alloc (blk_alloc (alloc_last w6 _) _) _
 have d2 : X6.heap[w6.heap.size + 1]? = some (.cells #[.bool k2, .int .i64 0, .int .i64 0, .int .i64 (x2 : Nat)] 30 (0, 0)) := by
  rw [hX6]
  have h9 := alloc_last (w6.alloc (.cells #[.bool k0, .int .i64 (s0 : Nat), .int .i64 (e0 : Nat), .int .i64 (x0 : Nat)] 30)) (.cells #[.bool k2, .int .i64 0, .int .i64 0, .int .i64 (x2 : Nat)] 30)
  rw [World.size_alloc] at h9
  exact blk_alloc h9 _
 have d1 : X6.heap[w6.heap.size + 1 + 1]? = some (.cells #[.bool k1, .int .i64 (s1 : Nat), .int .i64 (e1 : Nat), .int .i64 (x1 : Nat)] 30 (0, 0)) := by
  rw [hX6]
  have h9 := alloc_last ((w6.alloc (.cells #[.bool k0, .int .i64 (s0 : Nat), .int .i64 (e0 : Nat), .int .i64 (x0 : Nat)] 30)).alloc (.cells #[.bool k2, .int .i64 0, .int .i64 0, .int .i64 (x2 : Nat)] 30)) (.cells #[.bool k1, .int .i64 (s1 : Nat), .int .i64 (e1 : Nat), .int .i64 (x1 : Nat)] 30)
  rw [World.size_alloc, World.size_alloc] at h9
  exact h9
 have HB7 : Hid (Below wc.heap.size wc X6) := Lib.hid (HB1.out.trans ((HB6.out.trans (hb7.mono HB6.out.size)).mono HB1.out.size))
 have HAX := Lib.hid (HAW.out X6 HB7.out)
 have a0 : X6.cell? ⟨w6.heap.size, 0, none⟩ = some (.bool k0) := (Lib.cell_of_heap d0 0).trans rfl
 have a3 : X6.cell? ⟨w6.heap.size, 3, none⟩ = some (.int .i64 (x0 : Nat)) := (Lib.cell_of_heap d0 3).trans rfl
 have b0 : X6.cell? ⟨w6.heap.size + 1, 0, none⟩ = some (.bool k2) := (Lib.cell_of_heap d2 0).trans rfl
 have b3 : X6.cell? ⟨w6.heap.size + 1, 3, none⟩ = some (.int .i64 (x2 : Nat)) := (Lib.cell_of_heap d2 3).trans rfl
 have c0 : X6.cell? ⟨w6.heap.size + 1 + 1, 0, none⟩ = some (.bool k1) := (Lib.cell_of_heap d1 0).trans rfl
 have c3 : X6.cell? ⟨w6.heap.size + 1 + 1, 3, none⟩ = some (.int .i64 (x1 : Nat)) := (Lib.cell_of_heap d1 3).trans rfl
 have az := lt_blkB d0
 have bz := lt_blkB d2
 have cz := lt_blkB d1
 clear hX6 hb7 d0 d1 d2
 by_cases ho : a < 0 ∨ (l.length : Int) < a
 ·obtain ⟨rfl, rfl, rfl, rfl, rfl, rfl⟩ := HO.out ho
  by_cases hn : a < 0
  ·have hn' : decide (a < 0) = true := decide_eq_true hn
   go_wp2_with fail
   refine HAX.out.mono ?_
   rintro x w7 ⟨rfl, hb8⟩
   have HB8 := Lib.hid (HB7.out.trans (hb8.mono HB7.out.size))
   clear hb8
   go_wp2
   go_ret
   exact ⟨rfl, HB8.out⟩
  ·have hn' : decide (a < 0) = false := decide_eq_false hn
   have hm : (l.length : Int) < a := ho.resolve_left hn
   have hm' : decide ((l.length : Int) < a) = true := decide_eq_true hm
   go_wp2_with fail
   refine HAX.out.mono ?_
   rintro x w7 ⟨rfl, hb8⟩
   have HB8 := Lib.hid (HB7.out.trans (hb8.mono HB7.out.size))
   clear hb8
   go_wp2
   go_ret
   exact ⟨rfl, HB8.out⟩
 ·have hn : ¬ a < 0 := fun h => ho (Or.inl h)
  have hm : ¬ (l.length : Int) < a := fun h => ho (Or.inr h)
  have hn' : decide (a < 0) = false := decide_eq_false hn
  have hm' : decide ((l.length : Int) < a) = false := decide_eq_false hm
  have i0 : (0 : Int) ≤ (x0 : Int) := by omega
  have i1 : (0 : Int) ≤ (x1 : Int) := by omega
  have i2 : (0 : Int) ≤ (x2 : Int) := by omega
  have j0 : (x0 : Int) ≤ (M : Int) := by omega
  have j1 : (x1 : Int) ≤ 3 * (M : Int) := by omega
  have j2 : (x2 : Int) ≤ (M : Int) := by omega
  have jw : 3 * (M : Int) ≤ 9223372036854775807 := by omega
  go_wp2_with fail
  refine HAX.out.mono ?_
  rintro x w7 ⟨rfl, hb8⟩
  have HB8 := Lib.hid (HB7.out.trans (hb8.mono HB7.out.size))
  clear hb8
  go_wp2
  go_ret
  exact ⟨rfl, HB8.out⟩
end Go.Proofs.YtnecadgoiolpgaaGreatDoor
