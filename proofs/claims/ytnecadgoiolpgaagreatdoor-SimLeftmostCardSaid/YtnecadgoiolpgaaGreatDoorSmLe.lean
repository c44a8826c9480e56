import Derived.Test.YtnecadgoiolpgaaGreatDoorKSd
import Derived.Test.YtnecadgoiolpgaaGreatDoorSmQ
import Derived.Deep.LoopGhost
namespace Go.Proofs.YtnecadgoiolpgaaGreatDoor
open Go.RowKit
set_option maxRecDepth 100000 in
set_option maxHeartbeats 16000000 in
theorem sleft_any (cf : ByteArray → (Nat → Bool) × Bool) (hcf : ClassOk cf) (e : Nat → Addr) (bv sv : Value) (lb ls : List Int) (ext : Bool) (a : Int) (w : World) (hs : Snt w e) (he : Es w w.heap.size e) (ht : Ety w) (hb : Sl w bv lb) (hnb : BelV bv w.heap.size) (hsv : Sl w sv ls) :
  Calls Tryz.prog 5 #[bv, .bool ext, sv, .int .i64 a] w fun x w' => x = .returned (.bool true) ∧ Below w.heap.size w w' := by
 obtain ⟨r, hr⟩ := parseN_some cf lb ext
 have HBU := Lib.hid ((sbuild_any cf e bv lb (bkC_of hcf _) ext _ r w hs he ht hb hnb hr).mono fun x w' hq => sblq_or hq)
 have HAW : Hid (∀ X, Below w.heap.size w X → Calls Tryz.prog 12 #[] X fun x w' => x = .returned (.bool true) ∧ Below X.heap.size X w') := Lib.hid (fun X hX => awake10_any e X (hs.below hX) ⟨(he.below hX).var, Nat.lt_of_lt_of_le he.low hX.size, Nat.le_refl _⟩ (ht.below hX))
 obtain ⟨ba, bc, rfl⟩ := sl_shapeL hb
 obtain ⟨sa, sc, rfl⟩ := sl_shapeL hsv
 obtain ⟨l, hl, hlm, HCUT⟩ : ∃ l, Sl w (.slice sa l.length sc) l ∧ l.length ≤ 60 ∧ Hid (l.length = min ls.length 60) := by
  by_cases h3 : 60 < ls.length
  ·have h4 := hsv.cut (k := 60) (by omega)
   have h5 : (ls.take 60).length = 60 := by rw [List.length_take]; omega
   have h6 : Sl w (.slice sa (ls.take 60).length sc) (ls.take 60) := by rw [h5]; exact h4
   exact ⟨ls.take 60, h6, by omega, Lib.hid (by omega)⟩
  ·exact ⟨ls, hsv, by omega, Lib.hid (by omega)⟩
 have HL := Lib.hid hl
 have hcap : 60 < ls.length → 60 ≤ sc := fun h3 => by have := hsv.capL (by omega); omega
 clear hs he ht hb hnb hsv hr hl
 go_enter Tryz.func5, Tryz.ntmps5
 go_upto_if 15 with fail
 go_cut [2] (fun s2 X => s2 = .slice sa l.length sc ∧ X = w)
 case first =>
  by_cases h3 : 60 < ls.length
  ·have h3' : (60 : Int) < (ls.length : Int) := by omega
   have h5 := hcap h3
   have h6 : (60 : Int) ≤ (sc : Int) := by omega
   go_wp2_with fail
   go_meet
   exact ⟨by rw [HCUT.out, Nat.min_eq_right (by omega)], rfl⟩
  ·have h3' : ¬ (60 : Int) < (ls.length : Int) := by omega
   go_wp2_with fail
   go_meet
   exact ⟨by rw [HCUT.out, Nat.min_eq_left (by omega)], rfl⟩
 obtain ⟨rfl, rfl⟩ := hcut
 clear hcap HCUT
 go_wp2_with fail
 refine HBU.out.mono ?_
 rintro x w1 ⟨hb1, (rfl | ⟨gb, st, g, rfl, hA⟩)⟩
 ·have HB1 := Lib.hid hb1
  clear hb1
  go_wp2_with fail
  refine (HAW.out w1 HB1.out).mono ?_
  rintro x w9 ⟨rfl, hb9⟩
  have HB10 := Lib.hid (HB1.out.trans (hb9.mono HB1.out.size))
  clear hb9
  go_wp2
  go_ret
  exact ⟨rfl, HB10.out⟩
 have HB1 := Lib.hid hb1
 have HA := Lib.hid hA
 have HL1 := Lib.hid (HL.out.below hb1)
 clear hb1 hA HBU
 go_wp2_with fail
 refine (states_aut HA.out).mono ?_
 rintro x w2 ⟨rfl, rfl⟩
 by_cases h300 : 300 < g.length
 ·have h301 : (300 : Int) < (g.length : Int) := by omega
  go_wp2_with fail
  refine (HAW.out w2 HB1.out).mono ?_
  rintro x w9 ⟨rfl, hb9⟩
  have HB10 := Lib.hid (HB1.out.trans (hb9.mono HB1.out.size))
  clear hb9
  go_wp2
  go_ret
  exact ⟨rfl, HB10.out⟩
 have h301 : ¬ (300 : Int) < (g.length : Int) := by omega
 clear h300 HL
 have HX := Lib.hid (ssearch_any gb st g _ l a w2 HA.out HL1.out (by omega))
 have HY := Lib.hid (fun X (hX : Below w2.heap.size w2 X) => sany_any gb st g _ l a X (HA.out.below hX) (HL1.out.below hX) (by omega))
 have HLO := Lib.hid (fun X (i : Nat) (hX : Below w2.heap.size w2 X) => slongest_any gb st g _ l (i : Int) X (HA.out.below hX) (HL1.out.below hX) (by omega))
 have hany : (askF (g, st) l a 1).1.isSome = (askF (g, st) l a 2).1.isSome := by
  by_cases h0 : a < 0
  ·rw [askF_out (Or.inl h0), askF_out (Or.inl h0)]
  ·obtain ⟨na, rfl⟩ : ∃ na : Nat, a = (na : Int) := ⟨a.toNat, by omega⟩
   exact found_any (ask_found (l := l) (G := (g, st)) HA.out.cl HA.out.ze HA.out.lt na 1) (ask_found (l := l) (G := (g, st)) HA.out.cl HA.out.ze HA.out.lt na 2)
 have HLG : Hid (∀ i : Nat, 0 ≤ a → a ≤ i → ((askF (g, st) l a 1).1 = none → (askF (g, st) l (i : Int) 0).1 = none) ∧ ∀ q, (askF (g, st) l a 1).1 = some q → (i < q.1 → (askF (g, st) l (i : Int) 0).1 = none) ∧ (i = q.1 → (askF (g, st) l (i : Int) 0).1 = some q)) := Lib.hid (fun i h0 hi => by
  obtain ⟨na, rfl⟩ : ∃ na : Nat, a = (na : Int) := ⟨a.toNat, by omega⟩
  exact found_long (by omega) (ask_found (l := l) (G := (g, st)) HA.out.cl HA.out.ze HA.out.lt na 1) (ask_found (l := l) (G := (g, st)) HA.out.cl HA.out.ze HA.out.lt i 0))
 have HLE : Hid (∀ q, (askF (g, st) l a 1).1 = some q → 0 ≤ a ∧ a ≤ (q.1 : Int) ∧ q.1 ≤ q.2 ∧ q.2 ≤ l.length) := Lib.hid (fun q hq => by
  by_cases h0 : a < 0
  ·rw [askF_out (Or.inl h0)] at hq; cases hq
  ·obtain ⟨na, rfl⟩ : ∃ na : Nat, a = (na : Int) := ⟨a.toNat, by omega⟩
   have hf := ask_found (l := l) (G := (g, st)) HA.out.cl HA.out.ze HA.out.lt na 1
   rw [hq] at hf
   obtain ⟨h1, h2, h3⟩ := found_le hf
   omega)
 obtain ⟨⟨h1, x1⟩, hR1⟩ : ∃ R, R = askF (g, st) l a 1 := ⟨_, rfl⟩
 rw [← hR1] at HX hany HLG HLE
 dsimp only at hany HLG HLE
 obtain ⟨s0, e0, _, _, hval⟩ := hitC_parts h1
 rw [hval] at HX
 obtain ⟨x2, HY2⟩ : ∃ x2 : Nat, Hid (∀ X, Below w2.heap.size w2 X → Calls Tryz.prog 14 #[.pointer (some ⟨gb, 0, none⟩), .slice sa l.length sc, .int .i64 a] X fun r w' => r = .returned (.agg #[.bool h1.isSome, .int .i64 0, .int .i64 0, .int .i64 (x2 : Nat)]) ∧ Below X.heap.size X w') := ⟨(askF (g, st) l a 2).2, Lib.hid (fun X hX => by
  have := HY.out X hX
  unfold anyV at this
  rw [← hany] at this
  exact this)⟩
 have HSE : Hid (∀ s t : Nat, h1 = some (s, t) → s0 = s ∧ e0 = t) := Lib.hid (fun s t hst => by
  have := hval x1
  rw [hst] at this
  rw [hitV_some] at this
  simp only [Value.agg.injEq] at this
  simp at this
  omega)
 obtain ⟨k1, hk1⟩ : ∃ k, k = h1.isSome := ⟨_, rfl⟩
 have HK1 := Lib.hid hk1
 rw [← hk1] at HX HY2
 clear hR1 hval hany hk1 HY
 go_wp2_with fail
 refine HX.out.mono ?_
 rintro x w3 ⟨rfl, hb3⟩
 obtain ⟨X4, hX4⟩ : ∃ X4, X4 = w3.alloc (.cells #[.bool k1, .int .i64 (s0 : Nat), .int .i64 (e0 : Nat), .int .i64 (x1 : Nat)] 30) := ⟨_, rfl⟩
 have hb4 : Below w3.heap.size w3 X4 := by rw [hX4]; exact (Below.refl _ _).alloc (Nat.le_refl _) _
 have HH4 : Hid (X4.heap[w3.heap.size]? = some (.cells #[.bool k1, .int .i64 (s0 : Nat), .int .i64 (e0 : Nat), .int .i64 (x1 : Nat)] 30 (0, 0))) := Lib.hid (by rw [hX4]; exact alloc_last w3 _)
 have HB4 : Hid (Below w2.heap.size w2 X4) := Lib.hid (hb3.trans (hb4.mono hb3.size))
 have HX4 := Lib.hid hX4
 clear hb3 hb4 hX4
 go_upto_region 7 with fail
 rw [← HX4.out]
 refine Reg.wp_region_vals (fun X => Below X4.drew.heap.size X4.drew X) (fun j => ([some (.pointer (some ⟨w3.heap.size, 0, none⟩)), some (.bool k1), some (.pointer (some ⟨gb, 0, none⟩)), some (.slice sa l.length sc), some (.int .i64 a), some (.agg #[.bool k1, .int .i64 0, .int .i64 0, .int .i64 (x2 : Nat)]), some (.bool k1), some (.bool false)] : List (Option Value)).getD j none) (fun _ _ _ => True) (by kernel_rfl) (by kernel_rfl) (by kernel_rfl) (by kernel_rfl) ?rs0 ?rsE ?rsZ
 case rs0 => exact Below.refl _ _
 case rsE =>
  refine Reg.EachV.plain rfl (fun T X hS hk K hK => ?_) ?_
  ·skip
   have g10 : T[10]? = some (.pointer (some ⟨w3.heap.size, 0, none⟩)) := hk.old 10 (by kernel_rfl) rfl
   have hK := hK _ X hS (Reg.Is.of_val rfl) (fun _ _ _ h => h)
   clear hk
   go_simp
   exact hK
  refine Reg.EachV.plain rfl (fun T X hS hk K hK => ?_) ?_
  ·skip
   have g33 : T[33]? = some (.pointer (some ⟨w3.heap.size, 0, none⟩)) := hk.val 0 33 (by kernel_rfl) (by kernel_rfl) rfl
   have hh := blk_below HH4.out ((Below.refl _ _).drew.trans hS)
   have hc0 : X.cell? ⟨w3.heap.size, 0, none⟩ = some (.bool k1) := (Lib.cell_of_heap hh 0).trans rfl
   have hz0 := lt_blkB hh
   clear hh
   have hK := hK _ X hS (Reg.Is.of_val rfl) (fun _ _ _ h => h)
   clear hk
   go_simp
   exact hK
  refine Reg.EachV.plain rfl (fun T X hS hk K hK => ?_) ?_
  ·skip
   have g9 : T[9]? = some (.pointer (some ⟨gb, 0, none⟩)) := hk.old 9 (by kernel_rfl) rfl
   have hK := hK _ X hS (Reg.Is.of_val rfl) (fun _ _ _ h => h)
   clear hk
   go_simp
   exact hK
  refine Reg.EachV.plain rfl (fun T X hS hk K hK => ?_) ?_
  ·skip
   have g2 : T[2]? = some (.slice sa l.length sc) := hk.old 2 (by kernel_rfl) rfl
   have hK := hK _ X hS (Reg.Is.of_val rfl) (fun _ _ _ h => h)
   clear hk
   go_simp
   exact hK
  refine Reg.EachV.plain rfl (fun T X hS hk K hK => ?_) ?_
  ·skip
   have g3 : T[3]? = some (.int .i64 a) := hk.old 3 (by kernel_rfl) rfl
   have hK := hK _ X hS (Reg.Is.of_val rfl) (fun _ _ _ h => h)
   clear hk
   go_simp
   exact hK
  refine Reg.EachV.plain rfl (fun T X hS hk K hK => ?_) ?_
  ·skip
   have g35 : T[35]? = some (.pointer (some ⟨gb, 0, none⟩)) := hk.val 2 35 (by kernel_rfl) (by kernel_rfl) rfl
   have g36 : T[36]? = some (.slice sa l.length sc) := hk.val 3 36 (by kernel_rfl) (by kernel_rfl) rfl
   have g37 : T[37]? = some (.int .i64 a) := hk.val 4 37 (by kernel_rfl) (by kernel_rfl) rfl
   have hX2 : Below w2.heap.size w2 X := HB4.out.trans (((Below.refl X4.heap.size X4).drew.trans hS).mono HB4.out.size)
   clear hk
   go_simp
   refine (HY2.out X hX2).mono ?_
   rintro e w1 ⟨rfl, hb⟩
   exact hK _ _ (hS.trans (hb.mono hS.size)) (Reg.Is.of_val rfl) (fun _ _ _ h => h)
  refine Reg.EachV.plain rfl (fun T X hS hk K hK => ?_) ?_
  ·skip
   have g38 : T[38]? = some (.agg #[.bool k1, .int .i64 0, .int .i64 0, .int .i64 (x2 : Nat)]) := hk.val 5 38 (by kernel_rfl) (by kernel_rfl) rfl
   have hK := hK _ X hS (Reg.Is.of_val rfl) (fun _ _ _ h => h)
   clear hk
   go_simp
   exact hK
  refine Reg.EachV.plain rfl (fun T X hS hk K hK => ?_) ?_
  ·skip
   have g34 : T[34]? = some (.bool k1) := hk.val 1 34 (by kernel_rfl) (by kernel_rfl) rfl
   have g39 : T[39]? = some (.bool k1) := hk.val 6 39 (by kernel_rfl) (by kernel_rfl) rfl
   have hK := hK _ X hS (Reg.Is.of_val rfl) (fun _ _ _ h => h)
   clear hk
   go_simp
   exact hK
  exact Reg.EachV.nil
 case rsZ =>
  intro u w1 hS hI
  have e0 : u 0 = .pointer (some ⟨w3.heap.size, 0, none⟩) := (hI 0 (by decide)).val rfl
  have e1 : u 1 = .bool k1 := (hI 1 (by decide)).val rfl
  have e2 : u 2 = .pointer (some ⟨gb, 0, none⟩) := (hI 2 (by decide)).val rfl
  have e3 : u 3 = .slice sa l.length sc := (hI 3 (by decide)).val rfl
  have e4 : u 4 = .int .i64 a := (hI 4 (by decide)).val rfl
  have e5 : u 5 = .agg #[.bool k1, .int .i64 0, .int .i64 0, .int .i64 (x2 : Nat)] := (hI 5 (by decide)).val rfl
  have e6 : u 6 = .bool k1 := (hI 6 (by decide)).val rfl
  have e7 : u 7 = .bool false := (hI 7 (by decide)).val rfl
  clear hI
  simp only [Reg.putAll, Act.put, List.setIfInBounds_toArray, List.set_cons_succ, List.set_cons_zero, Nat.zero_add, Nat.reduceAdd, e0, e1, e2, e3, e4, e5, e6, e7]
  clear e0 e1 e2 e3 e4 e5 e6 e7
  have HB5 : Hid (Below w2.heap.size w2 w1) := Lib.hid (HB4.out.trans (((Below.refl X4.heap.size X4).drew.trans hS).mono HB4.out.size))
  have HH5 := Lib.hid (blk_below HH4.out ((Below.refl X4.heap.size X4).drew.trans hS))
  clear hS u HX4 HB4 HH4 HX HY2
  have hh5 := HH5.out
  have q0 : w1.cell? ⟨w3.heap.size, 0, none⟩ = some (.bool k1) := (Lib.cell_of_heap hh5 0).trans rfl
  have qz := lt_blkB hh5
  have HBW : Hid (Below wc.heap.size wc w1) := Lib.hid (HB1.out.trans (HB5.out.mono HB1.out.size))
  clear hh5
  by_cases h0 : a < 0
  ·have h0' : decide (a < 0) = true := decide_eq_true h0
   have hk : k1 = false := by
    rw [HK1.out]
    cases hh : h1 with
    | none => rfl
    | some q => have := (HLE.out q hh).1; omega
   subst hk
   go_wp2_with fail
   refine (HAW.out w1 HBW.out).mono ?_
   rintro x w9 ⟨rfl, hb9⟩
   have HB10 := Lib.hid (HBW.out.trans (hb9.mono HBW.out.size))
   clear hb9
   go_wp2
   go_ret
   exact ⟨rfl, HB10.out⟩
  obtain ⟨na, rfl⟩ : ∃ na : Nat, a = (na : Int) := ⟨a.toNat, by omega⟩
  have h0' : decide ((na : Int) < 0) = false := by simp
  clear q0
  go_upto_region 12 with fail
  go_loopg [11] (l.length + 1 - na) (fun gh s11 X => ∃ i : Nat, gh = l.length + 1 - i ∧ na ≤ i ∧ (i ≤ l.length + 1 ∨ i = na) ∧ s11 = .int .i64 (i : Nat) ∧ Aside ((∀ q, h1 = some q → i ≤ q.1) ∧ Below w1.heap.size w1 X))
  case atStart => exact ⟨na, rfl, Nat.le_refl _, Or.inr rfl, rfl, fun q hq => by have := (HLE.out q hq).2.1; omega, Below.refl _ _⟩
  case round =>
   obtain ⟨i, hgh, hna, hi, rfl, hal⟩ := hrel
   have HGH := Lib.hid hgh
   have HQI := Lib.hid hal.out.1
   have HBR : Hid (Below w2.heap.size w2 wr) := Lib.hid (HB5.out.trans (hal.out.2.mono HB5.out.size))
   have HBR1 := Lib.hid hal.out.2
   have HBX : Hid (Below wc.heap.size wc wr) := Lib.hid (HBW.out.trans (hal.out.2.mono HBW.out.size))
   have hh5 := blk_below HH5.out hal.out.2
   have HH6 := Lib.hid hh5
   have q0 : wr.cell? ⟨w3.heap.size, 0, none⟩ = some (.bool k1) := (Lib.cell_of_heap hh5 0).trans rfl
   have q1 : wr.cell? ⟨w3.heap.size, 1, none⟩ = some (.int .i64 (s0 : Nat)) := (Lib.cell_of_heap hh5 1).trans rfl
   have qz := lt_blkB hh5
   clear hal hgh hh5
   by_cases hil : i ≤ l.length
   ·have hil' : (i : Int) ≤ (l.length : Int) := by omega
    have hlg := HLG.out i (by omega) (by omega)
    have HLX := HLO.out wr i HBR.out
    obtain ⟨⟨h3, x3⟩, hR3⟩ : ∃ R, R = askF (g, st) l (i : Int) 0 := ⟨_, rfl⟩
    rw [← hR3] at HLX hlg
    dsimp only at hlg
    clear hR3
    have hi1 : (i : Int) + 1 ≤ 9223372036854775807 := by omega
    have HBA : Hid (∀ o w7, Below wr.heap.size wr w7 → Below w1.heap.size w1 (w7.alloc o)) := Lib.hid (fun o w7 h7 => (HBR1.out.trans (h7.mono HBR1.out.size)).alloc (Nat.le_trans HBR1.out.size h7.size) _)
    by_cases hnext : h3 = none
    ·subst hnext
     rw [hitV_none] at HLX
     have hgo : k1 = false ∨ (k1 = true ∧ i < s0) := by
      cases hh : h1 with
      | none => left; rw [HK1.out, hh]; rfl
      | some q =>
       right
       refine ⟨by rw [HK1.out, hh]; rfl, ?_⟩
       have h7 := HQI.out q hh
       have h8 := (HSE.out q.1 q.2 (by rw [hh])).1
       rcases Nat.lt_or_ge i q.1 with h9 | h9
       ·omega
       ·have := (hlg.2 q hh).2 (by omega); cases this
     have HLX := Lib.hid HLX
     have HNX : Hid (∀ q, h1 = some q → i + 1 ≤ q.1) := Lib.hid (fun q hh => by
      have h7 := HQI.out q hh
      rcases Nat.lt_or_ge i q.1 with h9 | h9
      ·exact h9
      ·have := (hlg.2 q hh).2 (by omega); cases this)
     clear hlg
     rcases hgo with hk | ⟨hk, his⟩
     ·subst hk
      go_wp2_with fail
      refine HLX.out.mono ?_
      rintro x w7 ⟨rfl, hb7⟩
      have hh7 := blk_below HH6.out hb7
      have r0 : w7.cell? ⟨w3.heap.size, 0, none⟩ = some (.bool false) := (Lib.cell_of_heap hh7 0).trans rfl
      have rz := lt_blkB hh7
      have HB7 := Lib.hid hb7
      clear hb7 hh7 q0 q1 qz
      go_wp2_with fail
      go_roundg (l.length + 1 - (i + 1))
      case measure => have := HGH.out; omega
      case rel => exact ⟨i + 1, rfl, by omega, Or.inl (by omega), by simp, HNX.out, HBA.out _ w7 HB7.out⟩
     ·subst hk
      have his' : (i : Int) < (s0 : Int) := by omega
      go_wp2_with fail
      refine HLX.out.mono ?_
      rintro x w7 ⟨rfl, hb7⟩
      have hh7 := blk_below HH6.out hb7
      have r0 : w7.cell? ⟨w3.heap.size, 0, none⟩ = some (.bool true) := (Lib.cell_of_heap hh7 0).trans rfl
      have r1 : w7.cell? ⟨w3.heap.size, 1, none⟩ = some (.int .i64 (s0 : Nat)) := (Lib.cell_of_heap hh7 1).trans rfl
      have rz := lt_blkB hh7
      have HB7 := Lib.hid hb7
      clear hb7 hh7 q0 q1 qz
      go_wp2_with fail
      go_roundg (l.length + 1 - (i + 1))
      case measure => have := HGH.out; omega
      case rel => exact ⟨i + 1, rfl, by omega, Or.inl (by omega), by simp, HNX.out, HBA.out _ w7 HB7.out⟩
    ·obtain ⟨q, hq⟩ : ∃ q, h1 = some q := by
      cases hh : h1 with
      | none => exact (hnext (hlg.1 hh)).elim
      | some q => exact ⟨q, rfl⟩
     have hiq : i = q.1 := by
      have h7 := HQI.out q hq
      rcases Nat.lt_or_ge i q.1 with h9 | h9
      ·exact (hnext ((hlg.2 q hq).1 h9)).elim
      ·omega
     have h3q := (hlg.2 q hq).2 hiq
     obtain ⟨s, t⟩ := q
     have hst0 := HSE.out s t hq
     have hle := HLE.out _ hq
     dsimp only at hiq hle
     subst h3q
     rw [hitV_some] at HLX
     have hk : k1 = true := by rw [HK1.out, hq]; rfl
     obtain ⟨rfl, rfl⟩ := hst0
     subst hk
     subst hiq
     have HLX := Lib.hid HLX
     have hns : ¬ (i : Int) < (i : Int) := by omega
     have het : (i : Int) ≤ (e0 : Int) := by omega
     have q2 : wr.cell? ⟨w3.heap.size, 2, none⟩ = some (.int .i64 (e0 : Nat)) := (Lib.cell_of_heap HH6.out 2).trans rfl
     have HB11 : Hid (∀ o w7, Below wr.heap.size wr w7 → Below wc.heap.size wc (w7.alloc o)) := Lib.hid (fun o w7 h7 => (HBX.out.trans (h7.mono HBX.out.size)).alloc (Nat.le_trans HBX.out.size h7.size) _)
     clear hlg hq hle hnext
     go_wp2_with fail
     refine HLX.out.mono ?_
     rintro x w7 ⟨rfl, hb7⟩
     have hh7 := blk_below HH6.out hb7
     have r0 : w7.cell? ⟨w3.heap.size, 0, none⟩ = some (.bool true) := (Lib.cell_of_heap hh7 0).trans rfl
     have r1 : w7.cell? ⟨w3.heap.size, 1, none⟩ = some (.int .i64 (i : Nat)) := (Lib.cell_of_heap hh7 1).trans rfl
     have r2 : w7.cell? ⟨w3.heap.size, 2, none⟩ = some (.int .i64 (e0 : Nat)) := (Lib.cell_of_heap hh7 2).trans rfl
     have rz := lt_blkB hh7
     have HB7 := Lib.hid hb7
     clear hb7 hh7 q0 q1 q2 qz
     go_wp2_with fail
     refine (HAW.out _ (HB11.out _ w7 HB7.out)).mono ?_
     rintro x w9 ⟨rfl, hb9⟩
     have HB10 := Lib.hid ((HB11.out _ w7 HB7.out).trans (hb9.mono (HB11.out _ w7 HB7.out).size))
     clear hb9
     go_wp2
     go_ret
     exact ⟨rfl, HB10.out⟩
   ·have hil' : ¬ (i : Int) ≤ (l.length : Int) := by omega
    have hk : k1 = false := by
     rw [HK1.out]
     cases hh : h1 with
     | none => rfl
     | some q =>
      have h7 := HQI.out q hh
      have h8 := HLE.out q hh
      omega
    subst hk
    go_wp2_with fail
    refine (HAW.out wr HBX.out).mono ?_
    rintro x w9 ⟨rfl, hb9⟩
    have HB10 := Lib.hid (HBX.out.trans (hb9.mono HBX.out.size))
    clear hb9
    go_wp2
    go_ret
    exact ⟨rfl, HB10.out⟩
end Go.Proofs.YtnecadgoiolpgaaGreatDoor
