/- The contract of the reference's Bracket, in every language, from every beginning (gen_rfb2.py). -/
import Derived.Test.YtoodpajbefffhaaDoorKRfc
import Derived.Deep.DeepCutAuto
import Derived.Deep.CutRange
namespace Go.Proofs.YtoodpajbefffhaaDoor
open Go.RowKit

set_option maxRecDepth 100000 in
set_option maxHeartbeats 16000000 in
theorem rbrk_t (cf : ByteArray → (Nat → Bool) × Bool) (hrf : ClassRf cf) (x o cap : Nat) (l : List Int) (k0 : Nat) (lg : Int) (g : Bool) (k1 : Nat) (w : World) (hs : Sl w (.slice (some ⟨x, o, none⟩) l.length cap) l) (hk0 : k0 < l.length) (hb47 : l.length ≤ 140737488351232) (hlg : lg = 2 ∨ lg = 3 ∨ lg = 4) (hg : g = decide (lg = 2))
    (hbeg : k1 = k0 + 1 ∧ (l.getD k0 0 = 94 ∨ (g = true ∧ l.getD k0 0 = 33))) {R : BR} (hR : refL cf (ofBys l) g ((ofBys l).size + 1 - k1) k1 true noP = R) :
    Calls Tryd.prog 11 #[.slice (some ⟨x, o, none⟩) l.length cap, .int .i64 k0, .int .i64 lg] w fun e w' => RbPost (brkT true R) lg e ∧ Below w.heap.size w w' := by
  have HSL := Lib.hid hs
  have hyl := hs.1
  obtain ⟨_, hl, ⟨rfl, _⟩ | ⟨x', o', cap', he, hcl, hcm, hr⟩⟩ := hs
  · simp at hk0
  simp only [Value.slice.injEq, Option.some.injEq, Addr.mk.injEq] at he
  obtain ⟨⟨rfl, rfl, _⟩, _, rfl⟩ := he
  have HRO : Hid (∀ i, i < l.length → w.cell? ⟨x, o + i, none⟩ = some (.int .u8 (l.getD i 0))) := Lib.hid hr
  have hxz : x < w.heap.size := by have := World.block_lt_of_cell? _ _ (hr k0 hk0); simpa using this
  have p0 := hr k0 hk0
  have hxz1 : x < w.heap.size + 1 := by omega
  have hxz2 : x < w.heap.size + 1 + 1 := by omega
  have p3 : (((w.alloc (.cells #[.int .u64 0, .int .u64 0, .int .u64 0, .int .u64 0] 39)).alloc (.cells #[.int .i64 0, .int .i64 0, .int .i64 0] 26)).alloc (.cells #[.int .u64 0, .int .u64 0, .int .u64 0, .int .u64 0] 39)).cell? ⟨x, o + k0, none⟩ = some (.int .u8 (l.getD k0 0)) := ((RbI.start w).bel.cell (p := ⟨x, o + k0, none⟩) hxz).trans p0
  obtain ⟨s, hss⟩ : ∃ s, s = ofBys l := ⟨_, rfl⟩
  have HSS := Lib.hid hss
  have HSZ : Hid (s.size = l.length) := Lib.hid (by rw [hss, ofBys_size])
  have HAT : Hid (∀ j, atB s j = l.getD j 0) := Lib.hid (fun j => by rw [hss]; exact atB_listR hyl j)
  rw [← hss] at hR
  have HRR := Lib.hid hR
  have HIT : ∀ k X, Below w.heap.size w X → k < l.length → Hid (Calls Tryd.prog 24 #[.slice (some ⟨x, o, none⟩) l.length cap, .int .i64 k, .int .i64 lg] X fun e w' => RiPost (itemR cf s g k) k e ∧ Below X.heap.size X w') := fun k X hX hk => Lib.hid (by rw [hss, hg]; exact ritem_any cf hrf x o cap l k lg X (HSL.out.below hX) hk hb47)
  have HITH := Lib.hid HIT
  have HF : ∀ (c p : Int) X, Hid (Calls Tryd.prog 10 #[.int .i64 c, .int .i64 p, .int .i64 lg] X fun e w' => e = .returned (.agg #[.int .i64 c, .int .i64 p, .int .i64 lg]) ∧ Below X.heap.size X w') := fun c p X => Lib.hid (rf_any c p lg X)
  have hkI : (k0 : Int) < (l.length : Int) := by omega
  have hkN : decide ((k0 : Int) < 0) = false := by simp
  have hkGN : ¬ l.length < k0 := by omega
  have hkG : decide ((l.length : Int) < (k0 : Int)) = false := by simp; omega
  have hw0 : IntKind.i64.wrap ((k0 : Int) + 1) = (k0 : Int) + 1 := by rw [IntKind.wrap_i64]; omega
  have HB0 := Lib.hid (RbI.start w)
  have HLG := Lib.hid hlg
  have HGG := Lib.hid hg
  have HBG := Lib.hid hbeg
  have hk1n : k1 ≤ l.length := by have := hbeg.1; omega
  obtain ⟨n, hn⟩ : ∃ n, n = l.length := ⟨_, rfl⟩
  have HN := Lib.hid hn
  rw [← hn] at HITH HSL HSZ HRO hkI hkG hkGN hk0 hb47 hl hcl hk1n
  rw [← hn]
  clear hn hss hr hyl hR HIT hrf hlg hg hbeg
  obtain ⟨c94, hc94⟩ : ∃ c, c = l.getD k0 0 := ⟨_, rfl⟩
  have HC94 := Lib.hid hc94
  rw [← hc94] at p0 p3 HBG
  clear hc94
  go_enter Tryd.func11, Tryd.ntmps11
  go_upto_region 1 with fail
  go_cut [6, 7, 8, 40] (fun s6 s7 s8 s40 X => s6 = .pointer (some ⟨w.heap.size, 0, none⟩) ∧ s7 = .int .i64 0 ∧ s8 = .pointer (some ⟨w.heap.size + 1, 0, none⟩) ∧ s40 = .bool false ∧ X = (w.alloc (.cells #[.int .u64 0, .int .u64 0, .int .u64 0, .int .u64 0] 39)).alloc (.cells #[.int .i64 0, .int .i64 0, .int .i64 0] 26))
  case first =>
    rcases HLG.out with rfl | rfl | rfl
    · go_wp2_with fail
      go_meet
      exact ⟨rfl, rfl, rfl, rfl, rfl⟩
    · go_wp2_with fail
      go_meet
      exact ⟨rfl, rfl, rfl, rfl, rfl⟩
    · go_wp2_with fail
      go_meet
      exact ⟨rfl, rfl, rfl, rfl, rfl⟩
  obtain ⟨rfl, rfl, rfl, rfl, rfl⟩ := hcut
  go_upto_region 4 with fail
  go_cut [6, 8, 9, 10, 11, 67] (fun s6 s8 s9 s10 s11 s67 X => s6 = .pointer (some ⟨w.heap.size, 0, none⟩) ∧ s8 = .pointer (some ⟨w.heap.size + 1, 0, none⟩) ∧ s9 = .pointer (some ⟨w.heap.size + 1 + 1, 0, none⟩) ∧ s10 = .int .i64 (k0 : Nat) ∧ s11 = .bool false ∧ s67 = .bool true ∧ Hid (RbI w noP X))
  case first =>
    obtain ⟨_, hc⟩ := HBG.out
    rcases HLG.out with rfl | rfl | rfl
    · by_cases h94 : c94 = 94
      · have e94 : (c94 == 94) = true := beq_iff_eq.2 h94
        clear h94 hc
        go_wp2_with fail
        all_goals (go_meet; exact ⟨rfl, rfl, rfl, rfl, rfl, rfl, HB0⟩)
      · have e94 : (c94 == 94) = false := beq_eq_false_iff_ne.2 h94
        have e33 : (c94 == 33) = true := by rcases hc with hc | ⟨_, hc⟩; exact absurd hc h94; exact beq_iff_eq.2 hc
        clear h94 hc
        go_wp2_with fail
        all_goals (go_meet; exact ⟨rfl, rfl, rfl, rfl, rfl, rfl, HB0⟩)
    · have e94 : (c94 == 94) = true := by rcases hc with hc | ⟨hc, _⟩; exact beq_iff_eq.2 hc; (rw [HGG.out] at hc; exact absurd hc (by decide))
      clear hc
      go_wp2_with fail
      all_goals (go_meet; exact ⟨rfl, rfl, rfl, rfl, rfl, rfl, HB0⟩)
    · have e94 : (c94 == 94) = true := by rcases hc with hc | ⟨hc, _⟩; exact beq_iff_eq.2 hc; (rw [HGG.out] at hc; exact absurd hc (by decide))
      clear hc
      go_wp2_with fail
      all_goals (go_meet; exact ⟨rfl, rfl, rfl, rfl, rfl, rfl, HB0⟩)
  obtain ⟨rfl, rfl, rfl, rfl, rfl, rfl, HB0c⟩ := hcut
  clear HB0
  go_upto_if 67 with fail
  go_cut [6, 8, 9, 10, 11] (fun s6 s8 s9 s10 s11 X => s6 = .pointer (some ⟨w.heap.size, 0, none⟩) ∧ s8 = .pointer (some ⟨w.heap.size + 1, 0, none⟩) ∧ s9 = .pointer (some ⟨w.heap.size + 1 + 1, 0, none⟩) ∧ s10 = .int .i64 (k1 : Nat) ∧ s11 = .bool true ∧ Hid (RbI w noP X))
  case first =>
    obtain ⟨rfl, _⟩ := HBG.out
    go_wp2_with fail
    go_meet
    exact ⟨rfl, rfl, rfl, by go_num, rfl, HB0c⟩
  obtain ⟨rfl, rfl, rfl, rfl, rfl, HBC⟩ := hcut
  clear p0 p3 hkI hkN hkG hkGN hw0 HB0c HLG HGG HBG HC94
  go_wp2_with fail
  go_loopw [10, 12] (fun i f X => ∃ (k : Nat) (fs : Bool) (p : Nat → Bool), i = .int .i64 (k : Nat) ∧ f = .bool fs ∧ k ≤ n ∧ Hid (refL cf s g (s.size + 1 - k) k fs p = R) ∧ Hid (RbI w p X)) (fun i _ _ => n + 1 - (intOf i).toNat)
  case atStart => exact ⟨k1, true, noP, rfl, rfl, hk1n, HRR, HBC⟩
  case round =>
    obtain ⟨k, fs, p, rfl, rfl, hk, HR, HB⟩ := hrel
    have HBB := Lib.hid HB.out.bel
    by_cases hlt : k < n
    · skip
      have hkI2 : ¬ (n : Int) ≤ (k : Int) := by omega
      have hkJ : (k : Int) < (n : Int) := by omega
      have cc : wr.cell? ⟨x, o + k, none⟩ = some (.int .u8 (l.getD k 0)) := (HBB.out.cell (p := ⟨x, o + k, none⟩) hxz).trans (HRO.out k hlt)
      have HAK := Lib.hid (HAT.out k)
      generalize l.getD k 0 = c at cc HAK
      obtain ⟨b, hb⟩ : ∃ b : Bool, b = (decide (c = 93) && !fs) := ⟨_, rfl⟩
      have HBV := Lib.hid hb
      clear hb
      go_upto_region 11 with fail
      go_cut [87] from 70 to 182 (fun s87 X => s87 = .bool b ∧ wr = X)
      case first =>
        by_cases h93 : c = 93
        · have e93 : (c == 93) = true := beq_iff_eq.2 h93
          have H93 := Lib.hid h93
          clear h93
          cases fs with
          | true =>
            go_wp2_with fail
            all_goals (go_meet; exact ⟨by rw [HBV.out]; simp, rfl⟩)
          | false =>
            go_wp2_with fail
            all_goals (go_meet; exact ⟨by rw [HBV.out, H93.out]; simp, rfl⟩)
        · have e93 : (c == 93) = false := beq_eq_false_iff_ne.2 h93
          go_wp2_with fail
          all_goals (go_meet; exact ⟨by rw [HBV.out]; simp [h93], rfl⟩)
      obtain ⟨rfl, rfl⟩ := hcut
      cases b with
      | true =>
        obtain ⟨hok1, hok2⟩ : c = 93 ∧ fs = false := by have := HBV.out; simpa using this.symm
        subst hok1
        subst hok2
        have HRE : Hid (R = .ok p (k + 1)) := Lib.hid (by
          rw [← HR.out]
          have hz := HSZ.out
          obtain ⟨m, hm⟩ : ∃ m, s.size + 1 - k = m + 1 := ⟨s.size - k, by omega⟩
          rw [hm]
          unfold refL
          rw [if_neg (by omega), if_pos ⟨rfl, HAK.out⟩])
        obtain ⟨⟨y90, y91, y92, y93⟩, ⟨f90, f91, f92, f93⟩, z9⟩ := cells4 HB.out.b9
        have HNT : Hid (Calls Tryd.prog 23 #[.agg #[.int .u64 (sw p 0 : Nat), .int .u64 (sw p 1 : Nat), .int .u64 (sw p 2 : Nat), .int .u64 (sw p 3 : Nat)]] wr fun e w' => e = .returned (.agg #[.int .u64 (sw (notP p) 0 : Nat), .int .u64 (sw (notP p) 1 : Nat), .int .u64 (sw (notP p) 2 : Nat), .int .u64 (sw (notP p) 3 : Nat)]) ∧ Below wr.heap.size wr w') := Lib.hid (rnot_any p wr)
        go_wp2_with fail
        refine HNT.out.mono ?_
        rintro e w1 ⟨rfl, hb1⟩
        have HB1 := Lib.hid (HB.out.nxt hb1)
        clear hb1 y90 y91 y92 y93 f90 f91 f92 f93 z9
        obtain ⟨⟨y90, y91, y92, y93⟩, ⟨f90, f91, f92, f93⟩, z9⟩ := cells4 HB1.out.b9
        go_upto_region 14 with fail
        have HB2 := Lib.hid (HB1.out.put (notP p))
        obtain ⟨w2, hw2⟩ : ∃ W, W = ((((w1.setCell ⟨w.heap.size + 1 + 1, 0, none⟩ (.int .u64 (sw (notP p) 0 : Nat))).setCell ⟨w.heap.size + 1 + 1, 1, none⟩ (.int .u64 (sw (notP p) 1 : Nat))).setCell ⟨w.heap.size + 1 + 1, 2, none⟩ (.int .u64 (sw (notP p) 2 : Nat))).setCell ⟨w.heap.size + 1 + 1, 3, none⟩ (.int .u64 (sw (notP p) 3 : Nat))) := ⟨_, rfl⟩
        rw [← hw2] at HB2 ⊢
        clear hw2 y90 y91 y92 y93 f90 f91 f92 f93 z9
        obtain ⟨⟨y60, y61, y62, y63⟩, ⟨f60, f61, f62, f63⟩, z6⟩ := cells4 HB2.out.b6
        obtain ⟨⟨y90, y91, y92, y93⟩, ⟨f90, f91, f92, f93⟩, z9⟩ := cells4 HB2.out.b9
        have z8 : w.heap.size + 1 < w2.heap.size := lt_blkB HB2.out.b8
        have y80 : w2.cell? ⟨w.heap.size + 1, 0, none⟩ = some (.int .i64 0) := by rw [Lib.cell_of_heap HB2.out.b8]; rfl
        have f80 : w2.frozen? ⟨w.heap.size + 1, 0, none⟩ = false := Lib.frozen_of_heap HB2.out.b8 0
        have y81 : w2.cell? ⟨w.heap.size + 1, 1, none⟩ = some (.int .i64 0) := by rw [Lib.cell_of_heap HB2.out.b8]; rfl
        have f81 : w2.frozen? ⟨w.heap.size + 1, 1, none⟩ = false := Lib.frozen_of_heap HB2.out.b8 1
        have y82 : w2.cell? ⟨w.heap.size + 1, 2, none⟩ = some (.int .i64 0) := by rw [Lib.cell_of_heap HB2.out.b8]; rfl
        have f82 : w2.frozen? ⟨w.heap.size + 1, 2, none⟩ = false := Lib.frozen_of_heap HB2.out.b8 2
        go_wp2_with fail
        refine bodyPost_ret (by first | (simp [results, Tryd.results11, go_sem, y60, y61, y62, y63, y80, y81, y82]; done) | (simp [results, Tryd.results11, go_sem, y60, y61, y62, y63, y80, y81, y82]; rfl)) rfl ⟨?_, ?_⟩
        · rw [HRE.out]
          show _ = _
          rw [Int.natCast_add]
          rfl
        · exact ((((((HB2.out.bel.setCell (Nat.le_refl _) _).setCell (Nat.le_refl _) _).setCell (Nat.le_refl _) _).setCell (Nat.le_refl _) _).setCell (Nat.le_succ _) _).setCell (Nat.le_succ _) _).setCell (Nat.le_succ _) _
      | false =>
        have HNK : Hid (¬ (fs = false ∧ atB s k = 93)) := Lib.hid (by rw [HAK.out]; rintro ⟨h1, h2⟩; have := HBV.out; rw [h1, h2] at this; simp at this)
        have HI := Lib.hid (HITH.out k wr HB.out.bel hlt)
        clear HBV HAK cc
        cases hI : itemR cf s g k with
        | bad pos =>
          rw [hI] at HI
          have HRE : Hid (R = .bad 8 pos) := Lib.hid (by
            rw [← HR.out]
            have hz := HSZ.out
            obtain ⟨m, hm⟩ : ∃ m, s.size + 1 - k = m + 1 := ⟨s.size - k, by omega⟩
            rw [hm]
            unfold refL
            rw [if_neg (by omega), if_neg HNK.out, hI])
          have HI2 : Hid (Calls Tryd.prog 24 #[.slice (some ⟨x, o, none⟩) n cap, .int .i64 k, .int .i64 lg] wr fun e w' => (∃ q : Nat → Bool, e = .returned (.tuple #[.int .i64 0, .agg #[.int .u64 (sw q 0 : Nat), .int .u64 (sw q 1 : Nat), .int .u64 (sw q 2 : Nat), .int .u64 (sw q 3 : Nat)], .int .i64 k, .int .i64 8, .int .i64 (pos : Nat)])) ∧ Below wr.heap.size wr w') := Lib.hid HI.out.out
          clear HI
          go_wp2_with fail
          refine HI2.out.mono ?_
          rintro e w1 ⟨⟨q, rfl⟩, hb1⟩
          have HB1 : Hid (RbI w p (w1.alloc (.cells #[.int .u64 (sw q 0 : Nat), .int .u64 (sw q 1 : Nat), .int .u64 (sw q 2 : Nat), .int .u64 (sw q 3 : Nat)] 39))) := Lib.hid ((HB.out.nxt hb1).nxt ((Below.refl _ _).alloc (Nat.le_refl _) _))
          clear hb1
          go_wp2_with fail
          refine (HF _ _ _).out.mono ?_
          rintro e w2 ⟨rfl, hbw2⟩
          have HEw2 := Lib.hid (HB1.out.nxt hbw2)
          clear hbw2
          obtain ⟨⟨y60, y61, y62, y63⟩, ⟨f60, f61, f62, f63⟩, z6⟩ := cells4 HEw2.out.b6
          have z8 : w.heap.size + 1 < w2.heap.size := lt_blkB HEw2.out.b8
          have y80 : w2.cell? ⟨w.heap.size + 1, 0, none⟩ = some (.int .i64 0) := by rw [Lib.cell_of_heap HEw2.out.b8]; rfl
          have f80 : w2.frozen? ⟨w.heap.size + 1, 0, none⟩ = false := Lib.frozen_of_heap HEw2.out.b8 0
          have y81 : w2.cell? ⟨w.heap.size + 1, 1, none⟩ = some (.int .i64 0) := by rw [Lib.cell_of_heap HEw2.out.b8]; rfl
          have f81 : w2.frozen? ⟨w.heap.size + 1, 1, none⟩ = false := Lib.frozen_of_heap HEw2.out.b8 1
          have y82 : w2.cell? ⟨w.heap.size + 1, 2, none⟩ = some (.int .i64 0) := by rw [Lib.cell_of_heap HEw2.out.b8]; rfl
          have f82 : w2.frozen? ⟨w.heap.size + 1, 2, none⟩ = false := Lib.frozen_of_heap HEw2.out.b8 2
          go_wp2
          refine bodyPost_ret (by first | (simp [results, Tryd.results11, go_sem, y60, y61, y62, y63, y80, y81, y82]; done) | (simp [results, Tryd.results11, go_sem, y60, y61, y62, y63, y80, y81, y82]; rfl)) rfl ⟨?_, ?_⟩
          · rw [HRE.out]
            rfl
          · exact ((((((HEw2.out.bel.setCell (Nat.le_refl _) _).setCell (Nat.le_refl _) _).setCell (Nat.le_refl _) _).setCell (Nat.le_refl _) _).setCell (Nat.le_succ _) _).setCell (Nat.le_succ _) _).setCell (Nat.le_succ _) _
        | cls q nx =>
          rw [hI] at HI
          have hnx := itemR_next hI
          have HRN : Hid (refL cf s g (s.size + 1 - nx) nx false (orP p q) = R) := Lib.hid (by
            rw [← HR.out]
            have hz := HSZ.out
            obtain ⟨m, hm⟩ : ∃ m, s.size + 1 - k = m + 1 := ⟨s.size - k, by omega⟩
            rw [hm]
            conv => rhs; unfold refL
            rw [if_neg (by omega), if_neg HNK.out, hI]
            exact refL_fuel cf s g _ _ nx false _ (by omega) (by omega) (by omega))
          have HI2 : Hid (Calls Tryd.prog 24 #[.slice (some ⟨x, o, none⟩) n cap, .int .i64 k, .int .i64 lg] wr fun e w' => e = .returned (.tuple #[.int .i64 (-1), .agg #[.int .u64 (sw q 0 : Nat), .int .u64 (sw q 1 : Nat), .int .u64 (sw q 2 : Nat), .int .u64 (sw q 3 : Nat)], .int .i64 (nx : Nat), .int .i64 0, .int .i64 0]) ∧ Below wr.heap.size wr w') := Lib.hid HI.out.out
          clear HI
          have HNX : Hid (k < nx ∧ nx ≤ n) := Lib.hid (by have := HSZ.out; omega)
          clear hnx hI
          go_wp2_with fail
          refine HI2.out.mono ?_
          rintro e w1 ⟨rfl, hb1⟩
          have HB1 := Lib.hid (HB.out.nxt hb1)
          clear hb1
          obtain ⟨⟨y90, y91, y92, y93⟩, ⟨f90, f91, f92, f93⟩, z9⟩ := cells4 HB1.out.b9
          have HOR : ∀ X, Hid (Calls Tryd.prog 25 #[.agg #[.int .u64 (sw p 0 : Nat), .int .u64 (sw p 1 : Nat), .int .u64 (sw p 2 : Nat), .int .u64 (sw p 3 : Nat)], .agg #[.int .u64 (sw q 0 : Nat), .int .u64 (sw q 1 : Nat), .int .u64 (sw q 2 : Nat), .int .u64 (sw q 3 : Nat)]] X fun e w' => e = .returned (.agg #[.int .u64 (sw (orP p q) 0 : Nat), .int .u64 (sw (orP p q) 1 : Nat), .int .u64 (sw (orP p q) 2 : Nat), .int .u64 (sw (orP p q) 3 : Nat)]) ∧ Below X.heap.size X w') := fun X => Lib.hid (ror_any p q X)
          have HB1a : Hid (RbI w p (w1.alloc (.cells #[.int .u64 (sw q 0 : Nat), .int .u64 (sw q 1 : Nat), .int .u64 (sw q 2 : Nat), .int .u64 (sw q 3 : Nat)] 39))) := Lib.hid (HB1.out.nxt ((Below.refl _ _).alloc (Nat.le_refl _) _))
          go_wp2_with fail
          refine (HOR _).out.mono ?_
          rintro e w2 ⟨rfl, hb2⟩
          have HB2 := Lib.hid (HB1a.out.nxt hb2)
          clear hb2 y90 y91 y92 y93 f90 f91 f92 f93 z9
          obtain ⟨⟨y90, y91, y92, y93⟩, ⟨f90, f91, f92, f93⟩, z9⟩ := cells4 HB2.out.b9
          go_wp2_with fail
          go_roundw
          case rel => first | exact ⟨nx, false, orP p q, by go_num, rfl, HNX.out.2, HRN, Lib.hid (HB2.out.put (orP p q))⟩ | ((repeat apply Exists.intro); exact ⟨⟨nx, false, orP p q, by go_num, rfl, HNX.out.2, HRN, Lib.hid (HB2.out.put (orP p q))⟩, rfl⟩)
          case measure => have := HNX.out; simp [intOf]; omega
        | byt c1 nx =>
          rw [hI] at HI
          have hib := itemR_byte hI
          obtain ⟨cn, rfl⟩ : ∃ cn : Nat, c1 = (cn : Int) := ⟨c1.toNat, by omega⟩
          have HI2 : Hid (Calls Tryd.prog 24 #[.slice (some ⟨x, o, none⟩) n cap, .int .i64 k, .int .i64 lg] wr fun e w' => e = .returned (.tuple #[.int .i64 (cn : Nat), .agg #[.int .u64 (sw noP 0 : Nat), .int .u64 (sw noP 1 : Nat), .int .u64 (sw noP 2 : Nat), .int .u64 (sw noP 3 : Nat)], .int .i64 (nx : Nat), .int .i64 0, .int .i64 0]) ∧ Below wr.heap.size wr w') := Lib.hid HI.out.out
          clear HI
          have hcn : cn < 256 := by omega
          have hc0 : decide ((cn : Int) < 0) = false := by simp
          have hcw : IntKind.u8.wrap (cn : Int) = (cn : Int) := by rw [IntKind.wrap_u8]; omega
          have hnxn : k < nx ∧ nx ≤ n := by have := HSZ.out; omega
          have HNXs : Hid (nx ≤ s.size) := Lib.hid hib.2.1
          have HRX : Hid (R = if s.size ≤ nx + 1 ∨ ¬ atB s nx = 45 ∨ atB s (nx + 1) = 93 then refL cf s g (s.size - k) nx false (plus p cn) else match itemR cf s g (nx + 1) with | .bad pos => .bad 8 pos | .cls _ _ => .bad 8 (nx + 1) | .byt d nx2 => if d < (cn : Int) then .bad 7 k else refL cf s g (s.size - k) nx2 false (orP p (rng cn d.toNat))) := Lib.hid (by
            rw [← HR.out]
            have hz := HSZ.out
            rw [show s.size + 1 - k = (s.size - k) + 1 by omega]
            conv => lhs; unfold refL
            rw [if_neg (by omega), if_neg HNK.out, hI]
            rfl)
          clear hI hib
          by_cases hcond : nx + 1 < n ∧ l.getD nx 0 = 45 ∧ ¬ l.getD (nx + 1) 0 = 93
          · obtain ⟨hn1, h45, hn93⟩ := hcond
            have HRY : Hid (R = match itemR cf s g (nx + 1) with | .bad pos => .bad 8 pos | .cls _ _ => .bad 8 (nx + 1) | .byt d nx2 => if d < (cn : Int) then .bad 7 k else refL cf s g (s.size - k) nx2 false (orP p (rng cn d.toNat))) := Lib.hid (by
              rw [HRX.out, if_neg (fun h => by
                have hz := HSZ.out
                rw [HAT.out, HAT.out] at h
                rcases h with h | h | h
                · omega
                · exact h h45
                · exact hn93 h)])
            have hw1 : IntKind.i64.wrap ((nx : Int) + 1) = (nx : Int) + 1 := by rw [IntKind.wrap_i64]; omega
            have h1b : ¬ (n : Int) ≤ (nx : Int) + 1 := by omega
            have h1d : decide ((n : Int) ≤ (nx : Int) + 1) = false := decide_eq_false h1b
            have hj0 : (nx : Int) < (n : Int) := by omega
            have hj1 : (nx : Int) + 1 < (n : Int) := by omega
            have h93b : (l.getD (nx + 1) 0 == 93) = false := beq_eq_false_iff_ne.2 hn93
            go_wp2_with fail
            refine HI2.out.mono ?_
            rintro e w1 ⟨rfl, hb1⟩
            have HB1 := Lib.hid (HB.out.nxt hb1)
            clear hb1
            have HB1a : Hid (RbI w p (w1.alloc (.cells #[.int .u64 (sw noP 0 : Nat), .int .u64 (sw noP 1 : Nat), .int .u64 (sw noP 2 : Nat), .int .u64 (sw noP 3 : Nat)] 39))) := Lib.hid (HB1.out.nxt ((Below.refl _ _).alloc (Nat.le_refl _) _))
            have g0 : (w1.alloc (.cells #[.int .u64 (sw noP 0 : Nat), .int .u64 (sw noP 1 : Nat), .int .u64 (sw noP 2 : Nat), .int .u64 (sw noP 3 : Nat)] 39)).cell? ⟨x, o + nx, none⟩ = some (.int .u8 (l.getD nx 0)) := (HB1a.out.bel.cell (p := ⟨x, o + nx, none⟩) hxz).trans (HRO.out _ (by omega))
            have g1 : (w1.alloc (.cells #[.int .u64 (sw noP 0 : Nat), .int .u64 (sw noP 1 : Nat), .int .u64 (sw noP 2 : Nat), .int .u64 (sw noP 3 : Nat)] 39)).cell? ⟨x, o + (nx + 1), none⟩ = some (.int .u8 (l.getD (nx + 1) 0)) := (HB1a.out.bel.cell (p := ⟨x, o + (nx + 1), none⟩) hxz).trans (HRO.out _ (by omega))
            rw [h45] at g0
            generalize l.getD (nx + 1) 0 = v1 at g1 h93b hn93
            have HI3 := Lib.hid (HITH.out (nx + 1) _ HB1a.out.bel hn1)
            clear h45 hn93
            cases hJ : itemR cf s g (nx + 1) with
            | bad pos =>
              rw [hJ] at HI3
              have HRE : Hid (R = .bad 8 pos) := Lib.hid (by rw [HRY.out, hJ])
              clear hJ
              have HI4 : Hid (Calls Tryd.prog 24 #[.slice (some ⟨x, o, none⟩) n cap, .int .i64 ((nx : Int) + 1), .int .i64 lg] (w1.alloc (.cells #[.int .u64 (sw noP 0 : Nat), .int .u64 (sw noP 1 : Nat), .int .u64 (sw noP 2 : Nat), .int .u64 (sw noP 3 : Nat)] 39)) fun e w' => (∃ q : Nat → Bool, e = .returned (.tuple #[.int .i64 0, .agg #[.int .u64 (sw q 0 : Nat), .int .u64 (sw q 1 : Nat), .int .u64 (sw q 2 : Nat), .int .u64 (sw q 3 : Nat)], .int .i64 ((nx : Int) + 1), .int .i64 8, .int .i64 (pos : Nat)])) ∧ Below (w1.alloc (.cells #[.int .u64 (sw noP 0 : Nat), .int .u64 (sw noP 1 : Nat), .int .u64 (sw noP 2 : Nat), .int .u64 (sw noP 3 : Nat)] 39)).heap.size (w1.alloc (.cells #[.int .u64 (sw noP 0 : Nat), .int .u64 (sw noP 1 : Nat), .int .u64 (sw noP 2 : Nat), .int .u64 (sw noP 3 : Nat)] 39)) w') := Lib.hid HI3.out.out
              clear HI3
              go_wp2_with fail
              refine HI4.out.mono ?_
              rintro e w3 ⟨⟨q, rfl⟩, hb3⟩
              have HB3 : Hid (RbI w p (w3.alloc (.cells #[.int .u64 (sw q 0 : Nat), .int .u64 (sw q 1 : Nat), .int .u64 (sw q 2 : Nat), .int .u64 (sw q 3 : Nat)] 39))) := Lib.hid ((HB1a.out.nxt hb3).nxt ((Below.refl _ _).alloc (Nat.le_refl _) _))
              clear hb3
              go_wp2_with fail
              refine (HF _ _ _).out.mono ?_
              rintro e w4 ⟨rfl, hbw4⟩
              have HEw4 := Lib.hid (HB3.out.nxt hbw4)
              clear hbw4
              obtain ⟨⟨y60, y61, y62, y63⟩, ⟨f60, f61, f62, f63⟩, z6⟩ := cells4 HEw4.out.b6
              have z8 : w.heap.size + 1 < w4.heap.size := lt_blkB HEw4.out.b8
              have y80 : w4.cell? ⟨w.heap.size + 1, 0, none⟩ = some (.int .i64 0) := by rw [Lib.cell_of_heap HEw4.out.b8]; rfl
              have f80 : w4.frozen? ⟨w.heap.size + 1, 0, none⟩ = false := Lib.frozen_of_heap HEw4.out.b8 0
              have y81 : w4.cell? ⟨w.heap.size + 1, 1, none⟩ = some (.int .i64 0) := by rw [Lib.cell_of_heap HEw4.out.b8]; rfl
              have f81 : w4.frozen? ⟨w.heap.size + 1, 1, none⟩ = false := Lib.frozen_of_heap HEw4.out.b8 1
              have y82 : w4.cell? ⟨w.heap.size + 1, 2, none⟩ = some (.int .i64 0) := by rw [Lib.cell_of_heap HEw4.out.b8]; rfl
              have f82 : w4.frozen? ⟨w.heap.size + 1, 2, none⟩ = false := Lib.frozen_of_heap HEw4.out.b8 2
              go_wp2
              refine bodyPost_ret (by first | (simp [results, Tryd.results11, go_sem, y60, y61, y62, y63, y80, y81, y82]; done) | (simp [results, Tryd.results11, go_sem, y60, y61, y62, y63, y80, y81, y82]; rfl)) rfl ⟨?_, ?_⟩
              · rw [HRE.out]
                rfl
              · exact ((((((HEw4.out.bel.setCell (Nat.le_refl _) _).setCell (Nat.le_refl _) _).setCell (Nat.le_refl _) _).setCell (Nat.le_refl _) _).setCell (Nat.le_succ _) _).setCell (Nat.le_succ _) _).setCell (Nat.le_succ _) _
            | cls q nx2 =>
              rw [hJ] at HI3
              have HRE : Hid (R = .bad 8 (nx + 1)) := Lib.hid (by rw [HRY.out, hJ])
              clear hJ
              have HI4 : Hid (Calls Tryd.prog 24 #[.slice (some ⟨x, o, none⟩) n cap, .int .i64 ((nx : Int) + 1), .int .i64 lg] (w1.alloc (.cells #[.int .u64 (sw noP 0 : Nat), .int .u64 (sw noP 1 : Nat), .int .u64 (sw noP 2 : Nat), .int .u64 (sw noP 3 : Nat)] 39)) fun e w' => e = .returned (.tuple #[.int .i64 (-1), .agg #[.int .u64 (sw q 0 : Nat), .int .u64 (sw q 1 : Nat), .int .u64 (sw q 2 : Nat), .int .u64 (sw q 3 : Nat)], .int .i64 (nx2 : Nat), .int .i64 0, .int .i64 0]) ∧ Below (w1.alloc (.cells #[.int .u64 (sw noP 0 : Nat), .int .u64 (sw noP 1 : Nat), .int .u64 (sw noP 2 : Nat), .int .u64 (sw noP 3 : Nat)] 39)).heap.size (w1.alloc (.cells #[.int .u64 (sw noP 0 : Nat), .int .u64 (sw noP 1 : Nat), .int .u64 (sw noP 2 : Nat), .int .u64 (sw noP 3 : Nat)] 39)) w') := Lib.hid HI3.out.out
              clear HI3
              go_wp2_with fail
              refine HI4.out.mono ?_
              rintro e w3 ⟨rfl, hb3⟩
              have HB3 : Hid (RbI w p (w3.alloc (.cells #[.int .u64 (sw q 0 : Nat), .int .u64 (sw q 1 : Nat), .int .u64 (sw q 2 : Nat), .int .u64 (sw q 3 : Nat)] 39))) := Lib.hid ((HB1a.out.nxt hb3).nxt ((Below.refl _ _).alloc (Nat.le_refl _) _))
              clear hb3
              go_wp2_with fail
              refine (HF _ _ _).out.mono ?_
              rintro e w4 ⟨rfl, hbw4⟩
              have HEw4 := Lib.hid (HB3.out.nxt hbw4)
              clear hbw4
              obtain ⟨⟨y60, y61, y62, y63⟩, ⟨f60, f61, f62, f63⟩, z6⟩ := cells4 HEw4.out.b6
              have z8 : w.heap.size + 1 < w4.heap.size := lt_blkB HEw4.out.b8
              have y80 : w4.cell? ⟨w.heap.size + 1, 0, none⟩ = some (.int .i64 0) := by rw [Lib.cell_of_heap HEw4.out.b8]; rfl
              have f80 : w4.frozen? ⟨w.heap.size + 1, 0, none⟩ = false := Lib.frozen_of_heap HEw4.out.b8 0
              have y81 : w4.cell? ⟨w.heap.size + 1, 1, none⟩ = some (.int .i64 0) := by rw [Lib.cell_of_heap HEw4.out.b8]; rfl
              have f81 : w4.frozen? ⟨w.heap.size + 1, 1, none⟩ = false := Lib.frozen_of_heap HEw4.out.b8 1
              have y82 : w4.cell? ⟨w.heap.size + 1, 2, none⟩ = some (.int .i64 0) := by rw [Lib.cell_of_heap HEw4.out.b8]; rfl
              have f82 : w4.frozen? ⟨w.heap.size + 1, 2, none⟩ = false := Lib.frozen_of_heap HEw4.out.b8 2
              go_wp2
              refine bodyPost_ret (by first | (simp [results, Tryd.results11, go_sem, y60, y61, y62, y63, y80, y81, y82]; done) | (simp [results, Tryd.results11, go_sem, y60, y61, y62, y63, y80, y81, y82]; rfl)) rfl ⟨?_, ?_⟩
              · rw [HRE.out]
                rfl
              · exact ((((((HEw4.out.bel.setCell (Nat.le_refl _) _).setCell (Nat.le_refl _) _).setCell (Nat.le_refl _) _).setCell (Nat.le_refl _) _).setCell (Nat.le_succ _) _).setCell (Nat.le_succ _) _).setCell (Nat.le_succ _) _
            | byt d1 nx2 =>
              rw [hJ] at HI3
              have hjb := itemR_byte hJ
              obtain ⟨dn, rfl⟩ : ∃ dn : Nat, d1 = (dn : Int) := ⟨d1.toNat, by omega⟩
              have HRZ : Hid (R = if (dn : Int) < (cn : Int) then .bad 7 k else refL cf s g (s.size - k) nx2 false (orP p (rng cn dn))) := Lib.hid (by rw [HRY.out, hJ]; rfl)
              have HI4 : Hid (Calls Tryd.prog 24 #[.slice (some ⟨x, o, none⟩) n cap, .int .i64 ((nx : Int) + 1), .int .i64 lg] (w1.alloc (.cells #[.int .u64 (sw noP 0 : Nat), .int .u64 (sw noP 1 : Nat), .int .u64 (sw noP 2 : Nat), .int .u64 (sw noP 3 : Nat)] 39)) fun e w' => e = .returned (.tuple #[.int .i64 (dn : Nat), .agg #[.int .u64 (sw noP 0 : Nat), .int .u64 (sw noP 1 : Nat), .int .u64 (sw noP 2 : Nat), .int .u64 (sw noP 3 : Nat)], .int .i64 (nx2 : Nat), .int .i64 0, .int .i64 0]) ∧ Below (w1.alloc (.cells #[.int .u64 (sw noP 0 : Nat), .int .u64 (sw noP 1 : Nat), .int .u64 (sw noP 2 : Nat), .int .u64 (sw noP 3 : Nat)] 39)).heap.size (w1.alloc (.cells #[.int .u64 (sw noP 0 : Nat), .int .u64 (sw noP 1 : Nat), .int .u64 (sw noP 2 : Nat), .int .u64 (sw noP 3 : Nat)] 39)) w') := Lib.hid HI3.out.out
              clear HI3
              have hdn : dn < 256 := by omega
              have hd0 : decide ((dn : Int) < 0) = false := by simp
              have hdw : IntKind.u8.wrap (dn : Int) = (dn : Int) := by rw [IntKind.wrap_u8]; omega
              have hnx2 : nx + 1 < nx2 ∧ nx2 ≤ n := by have := HSZ.out; omega
              have HNX2 : Hid (nx2 ≤ s.size) := Lib.hid hjb.2.1
              clear hJ hjb
              by_cases hdc : (dn : Int) < (cn : Int)
              · have HRE : Hid (R = .bad 7 k) := Lib.hid (by rw [HRZ.out, if_pos hdc])
                go_wp2_with fail
                refine HI4.out.mono ?_
                rintro e w3 ⟨rfl, hb3⟩
                have HB3 : Hid (RbI w p (w3.alloc (.cells #[.int .u64 (sw noP 0 : Nat), .int .u64 (sw noP 1 : Nat), .int .u64 (sw noP 2 : Nat), .int .u64 (sw noP 3 : Nat)] 39))) := Lib.hid ((HB1a.out.nxt hb3).nxt ((Below.refl _ _).alloc (Nat.le_refl _) _))
                clear hb3
                go_wp2_with fail
                refine (HF _ _ _).out.mono ?_
                rintro e w4 ⟨rfl, hbw4⟩
                have HEw4 := Lib.hid (HB3.out.nxt hbw4)
                clear hbw4
                obtain ⟨⟨y60, y61, y62, y63⟩, ⟨f60, f61, f62, f63⟩, z6⟩ := cells4 HEw4.out.b6
                have z8 : w.heap.size + 1 < w4.heap.size := lt_blkB HEw4.out.b8
                have y80 : w4.cell? ⟨w.heap.size + 1, 0, none⟩ = some (.int .i64 0) := by rw [Lib.cell_of_heap HEw4.out.b8]; rfl
                have f80 : w4.frozen? ⟨w.heap.size + 1, 0, none⟩ = false := Lib.frozen_of_heap HEw4.out.b8 0
                have y81 : w4.cell? ⟨w.heap.size + 1, 1, none⟩ = some (.int .i64 0) := by rw [Lib.cell_of_heap HEw4.out.b8]; rfl
                have f81 : w4.frozen? ⟨w.heap.size + 1, 1, none⟩ = false := Lib.frozen_of_heap HEw4.out.b8 1
                have y82 : w4.cell? ⟨w.heap.size + 1, 2, none⟩ = some (.int .i64 0) := by rw [Lib.cell_of_heap HEw4.out.b8]; rfl
                have f82 : w4.frozen? ⟨w.heap.size + 1, 2, none⟩ = false := Lib.frozen_of_heap HEw4.out.b8 2
                go_wp2
                refine bodyPost_ret (by first | (simp [results, Tryd.results11, go_sem, y60, y61, y62, y63, y80, y81, y82]; done) | (simp [results, Tryd.results11, go_sem, y60, y61, y62, y63, y80, y81, y82]; rfl)) rfl ⟨?_, ?_⟩
                · rw [HRE.out]
                  rfl
                · exact ((((((HEw4.out.bel.setCell (Nat.le_refl _) _).setCell (Nat.le_refl _) _).setCell (Nat.le_refl _) _).setCell (Nat.le_refl _) _).setCell (Nat.le_succ _) _).setCell (Nat.le_succ _) _).setCell (Nat.le_succ _) _
              · have hdc2 : decide ((dn : Int) < (cn : Int)) = false := decide_eq_false hdc
                have HRN : Hid (refL cf s g (s.size + 1 - nx2) nx2 false (orP p (rng cn dn)) = R) := Lib.hid (by
                  have hz := HSZ.out
                  rw [HRZ.out, if_neg hdc]
                  exact refL_fuel cf s g _ _ nx2 false _ HNX2.out (by omega) (by omega))
                have HRG : ∀ X, Hid (Calls Tryd.prog 26 #[.int .u8 (cn : Nat), .int .u8 (dn : Nat)] X fun e w' => e = .returned (.agg #[.int .u64 (sw (rng cn dn) 0 : Nat), .int .u64 (sw (rng cn dn) 1 : Nat), .int .u64 (sw (rng cn dn) 2 : Nat), .int .u64 (sw (rng cn dn) 3 : Nat)]) ∧ Below X.heap.size X w') := fun X => Lib.hid (rrange_any cn dn hcn hdn X)
                have HOR : ∀ X, Hid (Calls Tryd.prog 25 #[.agg #[.int .u64 (sw p 0 : Nat), .int .u64 (sw p 1 : Nat), .int .u64 (sw p 2 : Nat), .int .u64 (sw p 3 : Nat)], .agg #[.int .u64 (sw (rng cn dn) 0 : Nat), .int .u64 (sw (rng cn dn) 1 : Nat), .int .u64 (sw (rng cn dn) 2 : Nat), .int .u64 (sw (rng cn dn) 3 : Nat)]] X fun e w' => e = .returned (.agg #[.int .u64 (sw (orP p (rng cn dn)) 0 : Nat), .int .u64 (sw (orP p (rng cn dn)) 1 : Nat), .int .u64 (sw (orP p (rng cn dn)) 2 : Nat), .int .u64 (sw (orP p (rng cn dn)) 3 : Nat)]) ∧ Below X.heap.size X w') := fun X => Lib.hid (ror_any p (rng cn dn) X)
                go_wp2_with fail
                refine HI4.out.mono ?_
                rintro e w3 ⟨rfl, hb3⟩
                have HB3 : Hid (RbI w p (w3.alloc (.cells #[.int .u64 (sw noP 0 : Nat), .int .u64 (sw noP 1 : Nat), .int .u64 (sw noP 2 : Nat), .int .u64 (sw noP 3 : Nat)] 39))) := Lib.hid ((HB1a.out.nxt hb3).nxt ((Below.refl _ _).alloc (Nat.le_refl _) _))
                clear hb3
                go_wp2_with fail
                refine Reg.wp_region_sto (fun L u X => (L 7 = false → RbI w p X) ∧ (L 7 = true → RbI w (orP p (rng cn dn)) X)) (fun j => ([some (.agg #[.int .u64 (sw p 0 : Nat), .int .u64 (sw p 1 : Nat), .int .u64 (sw p 2 : Nat), .int .u64 (sw p 3 : Nat)]), some (.int .i64 (cn : Nat)), some (.int .u8 (cn : Nat)), some (.int .i64 (dn : Nat)), some (.int .u8 (dn : Nat)), some (.agg #[.int .u64 (sw (rng cn dn) 0 : Nat), .int .u64 (sw (rng cn dn) 1 : Nat), .int .u64 (sw (rng cn dn) 2 : Nat), .int .u64 (sw (rng cn dn) 3 : Nat)]), some (.agg #[.int .u64 (sw (orP p (rng cn dn)) 0 : Nat), .int .u64 (sw (orP p (rng cn dn)) 1 : Nat), .int .u64 (sw (orP p (rng cn dn)) 2 : Nat), .int .u64 (sw (orP p (rng cn dn)) 3 : Nat)]), none] : List (Option Value)).getD j none) (by kernel_rfl) (by kernel_rfl) (by kernel_rfl) (by kernel_rfl) ?rs0 ?rsE ?rsZ
                case rs0 => exact ⟨fun _ => HB3.out.nxt (Below.refl _ _).drew, fun h => (by cases h)⟩
                case rsE =>
                  refine Reg.EachG.plain rfl (fun L u T X hL hz hS hk K hK => ?_) ?_
                  · skip
                    have g9 : T[9]? = some (.pointer (some ⟨w.heap.size + 1 + 1, 0, none⟩)) := hk.old 9 (by kernel_rfl) rfl
                    have hd : L 7 = false := hz 7 (by kernel_rfl)
                    obtain ⟨⟨y0, y1, y2, y3⟩, _, hbz⟩ := cells4 (hS.1 hd).b9
                    have hK := hK _ X hS (fun _ hx => Option.some.inj hx)
                    clear hk hz hL hd
                    go_simp
                    exact hK
                  refine Reg.EachG.plain rfl (fun L u T X hL hz hS hk K hK => ?_) ?_
                  · skip
                    have g14 : T[14]? = some (.int .i64 (cn : Nat)) := hk.old 14 (by kernel_rfl) rfl
                    have hK := hK _ X hS (fun _ hx => Option.some.inj hx)
                    clear hk hz hL
                    go_simp
                    exact hK
                  refine Reg.EachG.plain rfl (fun L u T X hL hz hS hk K hK => ?_) ?_
                  · skip
                    have g176 : T[176]? = some (.int .i64 (cn : Nat)) := hk.val 1 176 (by kernel_rfl) (by kernel_rfl) rfl
                    have hK := hK _ X hS (fun _ hx => Option.some.inj hx)
                    clear hk hz hL
                    go_simp
                    exact hK
                  refine Reg.EachG.plain rfl (fun L u T X hL hz hS hk K hK => ?_) ?_
                  · skip
                    have g19 : T[19]? = some (.int .i64 (dn : Nat)) := hk.old 19 (by kernel_rfl) rfl
                    have hK := hK _ X hS (fun _ hx => Option.some.inj hx)
                    clear hk hz hL
                    go_simp
                    exact hK
                  refine Reg.EachG.plain rfl (fun L u T X hL hz hS hk K hK => ?_) ?_
                  · skip
                    have g178 : T[178]? = some (.int .i64 (dn : Nat)) := hk.val 3 178 (by kernel_rfl) (by kernel_rfl) rfl
                    have hK := hK _ X hS (fun _ hx => Option.some.inj hx)
                    clear hk hz hL
                    go_simp
                    exact hK
                  refine Reg.EachG.plain rfl (fun L u T X hL hz hS hk K hK => ?_) ?_
                  · skip
                    have g177 : T[177]? = some (.int .u8 (cn : Nat)) := hk.val 2 177 (by kernel_rfl) (by kernel_rfl) rfl
                    have g179 : T[179]? = some (.int .u8 (dn : Nat)) := hk.val 4 179 (by kernel_rfl) (by kernel_rfl) rfl
                    clear hk hz
                    go_simp
                    refine ((HRG X).out).mono ?_
                    rintro e w5 ⟨rfl, hb⟩
                    exact hK _ _ ⟨fun h => (hS.1 h).nxt hb, fun h => (hS.2 h).nxt hb⟩ (fun _ hx => Option.some.inj hx)
                  refine Reg.EachG.plain rfl (fun L u T X hL hz hS hk K hK => ?_) ?_
                  · skip
                    have g175 : T[175]? = some (.agg #[.int .u64 (sw p 0 : Nat), .int .u64 (sw p 1 : Nat), .int .u64 (sw p 2 : Nat), .int .u64 (sw p 3 : Nat)]) := hk.val 0 175 (by kernel_rfl) (by kernel_rfl) rfl
                    have g180 : T[180]? = some (.agg #[.int .u64 (sw (rng cn dn) 0 : Nat), .int .u64 (sw (rng cn dn) 1 : Nat), .int .u64 (sw (rng cn dn) 2 : Nat), .int .u64 (sw (rng cn dn) 3 : Nat)]) := hk.val 5 180 (by kernel_rfl) (by kernel_rfl) rfl
                    clear hk hz
                    go_simp
                    refine ((HOR X).out).mono ?_
                    rintro e w5 ⟨rfl, hb⟩
                    exact hK _ _ ⟨fun h => (hS.1 h).nxt hb, fun h => (hS.2 h).nxt hb⟩ (fun _ hx => Option.some.inj hx)
                  refine Reg.EachG.plain rfl (fun L u T X hL hz hS hk K hK => ?_) ?_
                  · skip
                    have g9 : T[9]? = some (.pointer (some ⟨w.heap.size + 1 + 1, 0, none⟩)) := hk.old 9 (by kernel_rfl) rfl
                    have g181 : T[181]? = some (.agg #[.int .u64 (sw (orP p (rng cn dn)) 0 : Nat), .int .u64 (sw (orP p (rng cn dn)) 1 : Nat), .int .u64 (sw (orP p (rng cn dn)) 2 : Nat), .int .u64 (sw (orP p (rng cn dn)) 3 : Nat)]) := hk.val 6 181 (by kernel_rfl) (by kernel_rfl) rfl
                    obtain ⟨⟨y0, y1, y2, y3⟩, ⟨f0, f1, f2, f3⟩, hbz⟩ := cells4 (hS.1 hL).b9
                    have hK := hK undef ((((X.setCell ⟨w.heap.size + 1 + 1, 0, none⟩ (.int .u64 (sw (orP p (rng cn dn)) 0 : Nat))).setCell ⟨w.heap.size + 1 + 1, 1, none⟩ (.int .u64 (sw (orP p (rng cn dn)) 1 : Nat))).setCell ⟨w.heap.size + 1 + 1, 2, none⟩ (.int .u64 (sw (orP p (rng cn dn)) 2 : Nat))).setCell ⟨w.heap.size + 1 + 1, 3, none⟩ (.int .u64 (sw (orP p (rng cn dn)) 3 : Nat))) ⟨fun h => (by rw [Reg.upd_same] at h; cases h), fun _ => (hS.1 hL).put _⟩ (fun _ hx => by cases hx)
                    clear hk hz hL hS
                    go_simp
                    exact hK
                  exact Reg.EachG.nil
                case rsZ =>
                  intro L u w9 hL hS hI
                  have e0 : u 0 = .agg #[.int .u64 (sw p 0 : Nat), .int .u64 (sw p 1 : Nat), .int .u64 (sw p 2 : Nat), .int .u64 (sw p 3 : Nat)] := hI 0 (by decide) _ rfl
                  have e1 : u 1 = .int .i64 (cn : Nat) := hI 1 (by decide) _ rfl
                  have e2 : u 2 = .int .u8 (cn : Nat) := hI 2 (by decide) _ rfl
                  have e3 : u 3 = .int .i64 (dn : Nat) := hI 3 (by decide) _ rfl
                  have e4 : u 4 = .int .u8 (dn : Nat) := hI 4 (by decide) _ rfl
                  have e5 : u 5 = .agg #[.int .u64 (sw (rng cn dn) 0 : Nat), .int .u64 (sw (rng cn dn) 1 : Nat), .int .u64 (sw (rng cn dn) 2 : Nat), .int .u64 (sw (rng cn dn) 3 : Nat)] := hI 5 (by decide) _ rfl
                  have e6 : u 6 = .agg #[.int .u64 (sw (orP p (rng cn dn)) 0 : Nat), .int .u64 (sw (orP p (rng cn dn)) 1 : Nat), .int .u64 (sw (orP p (rng cn dn)) 2 : Nat), .int .u64 (sw (orP p (rng cn dn)) 3 : Nat)] := hI 6 (by decide) _ rfl
                  clear hI
                  simp only [Reg.putAll, Act.put, List.setIfInBounds_toArray, List.set_cons_succ, List.set_cons_zero, Nat.zero_add, Nat.reduceAdd, e0, e1, e2, e3, e4, e5, e6]
                  clear e0 e1 e2 e3 e4 e5 e6
                  have HR9 := Lib.hid (hS.2 (hL 7 (by decide)))
                  clear hS hL
                  go_wp2_with fail
                  go_roundw
                  case rel => first | exact ⟨nx2, false, orP p (rng cn dn), by go_num, rfl, hnx2.2, HRN, HR9⟩ | ((repeat apply Exists.intro); exact ⟨⟨nx2, false, orP p (rng cn dn), by go_num, rfl, hnx2.2, HRN, HR9⟩, rfl⟩)
                  case measure => simp [intOf]; omega
          · have HRY : Hid (refL cf s g (s.size + 1 - nx) nx false (plus p cn) = R) := Lib.hid (by
              have hz := HSZ.out
              rw [HRX.out, if_pos (by
                rw [HAT.out, HAT.out]
                by_cases h1 : nx + 1 < n
                · by_cases h2 : l.getD nx 0 = 45
                  · exact Or.inr (Or.inr (Classical.byContradiction fun h3 => hcond ⟨h1, h2, h3⟩))
                  · exact Or.inr (Or.inl h2)
                · exact Or.inl (by omega))]
              exact refL_fuel cf s g _ _ nx false _ HNXs.out (by omega) (by omega))
            have HAD : ∀ X, Hid (Calls Tryd.prog 12 #[.agg #[.int .u64 (sw p 0 : Nat), .int .u64 (sw p 1 : Nat), .int .u64 (sw p 2 : Nat), .int .u64 (sw p 3 : Nat)], .int .u8 (cn : Nat)] X fun e w' => e = .returned (.agg #[.int .u64 (sw (plus p cn) 0 : Nat), .int .u64 (sw (plus p cn) 1 : Nat), .int .u64 (sw (plus p cn) 2 : Nat), .int .u64 (sw (plus p cn) 3 : Nat)]) ∧ Below X.heap.size X w') := fun X => Lib.hid (radd_any p cn hcn X)
            have hw1 : IntKind.i64.wrap ((nx : Int) + 1) = (nx : Int) + 1 := by rw [IntKind.wrap_i64]; omega
            by_cases h1 : nx + 1 < n
            · have h1b : ¬ (n : Int) ≤ (nx : Int) + 1 := by omega
              have h1d : decide ((n : Int) ≤ (nx : Int) + 1) = false := decide_eq_false h1b
              have hj0 : (nx : Int) < (n : Int) := by omega
              have hj1 : (nx : Int) + 1 < (n : Int) := by omega
              by_cases h45 : l.getD nx 0 = 45
              · have h93 : l.getD (nx + 1) 0 = 93 := Classical.byContradiction fun h3 => hcond ⟨h1, h45, h3⟩
                clear hcond
                go_wp2_with fail
                refine HI2.out.mono ?_
                rintro e w1 ⟨rfl, hb1⟩
                have HB1 := Lib.hid (HB.out.nxt hb1)
                clear hb1
                obtain ⟨⟨y90, y91, y92, y93⟩, ⟨f90, f91, f92, f93⟩, z9⟩ := cells4 HB1.out.b9
                have HB1a : Hid (RbI w p (w1.alloc (.cells #[.int .u64 (sw noP 0 : Nat), .int .u64 (sw noP 1 : Nat), .int .u64 (sw noP 2 : Nat), .int .u64 (sw noP 3 : Nat)] 39))) := Lib.hid (HB1.out.nxt ((Below.refl _ _).alloc (Nat.le_refl _) _))
                have g0 : (w1.alloc (.cells #[.int .u64 (sw noP 0 : Nat), .int .u64 (sw noP 1 : Nat), .int .u64 (sw noP 2 : Nat), .int .u64 (sw noP 3 : Nat)] 39)).cell? ⟨x, o + nx, none⟩ = some (.int .u8 (l.getD nx 0)) := (HB1a.out.bel.cell (p := ⟨x, o + nx, none⟩) hxz).trans (HRO.out _ (by omega))
                have g1 : (w1.alloc (.cells #[.int .u64 (sw noP 0 : Nat), .int .u64 (sw noP 1 : Nat), .int .u64 (sw noP 2 : Nat), .int .u64 (sw noP 3 : Nat)] 39)).cell? ⟨x, o + (nx + 1), none⟩ = some (.int .u8 (l.getD (nx + 1) 0)) := (HB1a.out.bel.cell (p := ⟨x, o + (nx + 1), none⟩) hxz).trans (HRO.out _ (by omega))
                rw [h45] at g0
                rw [h93] at g1
                go_wp2_with fail
                refine (HAD _).out.mono ?_
                rintro e w2 ⟨rfl, hb2⟩
                have HB2 := Lib.hid (HB1a.out.nxt hb2)
                clear hb2 y90 y91 y92 y93 f90 f91 f92 f93 z9
                obtain ⟨⟨y90, y91, y92, y93⟩, ⟨f90, f91, f92, f93⟩, z9⟩ := cells4 HB2.out.b9
                go_wp2_with fail
                go_roundw
                case rel => first | exact ⟨nx, false, plus p cn, by go_num, rfl, hnxn.2, HRY, Lib.hid (HB2.out.put (plus p cn))⟩ | ((repeat apply Exists.intro); exact ⟨⟨nx, false, plus p cn, by go_num, rfl, hnxn.2, HRY, Lib.hid (HB2.out.put (plus p cn))⟩, rfl⟩)
                case measure => simp [intOf]; omega
              · have h45b : (l.getD nx 0 == 45) = false := beq_eq_false_iff_ne.2 h45
                have h45c : (l.getD nx 0 != 45) = true := by simpa using h45
                clear hcond
                go_wp2_with fail
                refine HI2.out.mono ?_
                rintro e w1 ⟨rfl, hb1⟩
                have HB1 := Lib.hid (HB.out.nxt hb1)
                clear hb1
                obtain ⟨⟨y90, y91, y92, y93⟩, ⟨f90, f91, f92, f93⟩, z9⟩ := cells4 HB1.out.b9
                have HB1a : Hid (RbI w p (w1.alloc (.cells #[.int .u64 (sw noP 0 : Nat), .int .u64 (sw noP 1 : Nat), .int .u64 (sw noP 2 : Nat), .int .u64 (sw noP 3 : Nat)] 39))) := Lib.hid (HB1.out.nxt ((Below.refl _ _).alloc (Nat.le_refl _) _))
                have g0 : (w1.alloc (.cells #[.int .u64 (sw noP 0 : Nat), .int .u64 (sw noP 1 : Nat), .int .u64 (sw noP 2 : Nat), .int .u64 (sw noP 3 : Nat)] 39)).cell? ⟨x, o + nx, none⟩ = some (.int .u8 (l.getD nx 0)) := (HB1a.out.bel.cell (p := ⟨x, o + nx, none⟩) hxz).trans (HRO.out _ (by omega))
                generalize l.getD nx 0 = v0 at g0 h45b h45c
                go_wp2_with fail
                refine (HAD _).out.mono ?_
                rintro e w2 ⟨rfl, hb2⟩
                have HB2 := Lib.hid (HB1a.out.nxt hb2)
                clear hb2 y90 y91 y92 y93 f90 f91 f92 f93 z9
                obtain ⟨⟨y90, y91, y92, y93⟩, ⟨f90, f91, f92, f93⟩, z9⟩ := cells4 HB2.out.b9
                go_wp2_with fail
                go_roundw
                case rel => first | exact ⟨nx, false, plus p cn, by go_num, rfl, hnxn.2, HRY, Lib.hid (HB2.out.put (plus p cn))⟩ | ((repeat apply Exists.intro); exact ⟨⟨nx, false, plus p cn, by go_num, rfl, hnxn.2, HRY, Lib.hid (HB2.out.put (plus p cn))⟩, rfl⟩)
                case measure => simp [intOf]; omega
            · have h1b : (n : Int) ≤ (nx : Int) + 1 := by omega
              clear hcond
              go_wp2_with fail
              refine HI2.out.mono ?_
              rintro e w1 ⟨rfl, hb1⟩
              have HB1 := Lib.hid (HB.out.nxt hb1)
              clear hb1
              obtain ⟨⟨y90, y91, y92, y93⟩, ⟨f90, f91, f92, f93⟩, z9⟩ := cells4 HB1.out.b9
              have HB1a : Hid (RbI w p (w1.alloc (.cells #[.int .u64 (sw noP 0 : Nat), .int .u64 (sw noP 1 : Nat), .int .u64 (sw noP 2 : Nat), .int .u64 (sw noP 3 : Nat)] 39))) := Lib.hid (HB1.out.nxt ((Below.refl _ _).alloc (Nat.le_refl _) _))
              go_wp2_with fail
              refine (HAD _).out.mono ?_
              rintro e w2 ⟨rfl, hb2⟩
              have HB2 := Lib.hid (HB1a.out.nxt hb2)
              clear hb2 y90 y91 y92 y93 f90 f91 f92 f93 z9
              obtain ⟨⟨y90, y91, y92, y93⟩, ⟨f90, f91, f92, f93⟩, z9⟩ := cells4 HB2.out.b9
              go_wp2_with fail
              go_roundw
              case rel => first | exact ⟨nx, false, plus p cn, by go_num, rfl, hnxn.2, HRY, Lib.hid (HB2.out.put (plus p cn))⟩ | ((repeat apply Exists.intro); exact ⟨⟨nx, false, plus p cn, by go_num, rfl, hnxn.2, HRY, Lib.hid (HB2.out.put (plus p cn))⟩, rfl⟩)
              case measure => simp [intOf]; omega
    · have hke : k = n := by omega
      have hkI2 : (n : Int) ≤ (k : Int) := by omega
      have HRE : Hid (R = .bad 8 n) := Lib.hid (by
        rw [← HR.out]
        have hz := HSZ.out
        obtain ⟨m, hm⟩ : ∃ m, s.size + 1 - k = m + 1 := ⟨s.size - k, by omega⟩
        rw [hm]
        unfold refL
        rw [if_pos (by omega), hz])
      go_wp2_with fail
      refine (HF _ _ _).out.mono ?_
      rintro e w1 ⟨rfl, hbw1⟩
      have HEw1 := Lib.hid (HB.out.nxt hbw1)
      clear hbw1
      obtain ⟨⟨y60, y61, y62, y63⟩, ⟨f60, f61, f62, f63⟩, z6⟩ := cells4 HEw1.out.b6
      have z8 : w.heap.size + 1 < w1.heap.size := lt_blkB HEw1.out.b8
      have y80 : w1.cell? ⟨w.heap.size + 1, 0, none⟩ = some (.int .i64 0) := by rw [Lib.cell_of_heap HEw1.out.b8]; rfl
      have f80 : w1.frozen? ⟨w.heap.size + 1, 0, none⟩ = false := Lib.frozen_of_heap HEw1.out.b8 0
      have y81 : w1.cell? ⟨w.heap.size + 1, 1, none⟩ = some (.int .i64 0) := by rw [Lib.cell_of_heap HEw1.out.b8]; rfl
      have f81 : w1.frozen? ⟨w.heap.size + 1, 1, none⟩ = false := Lib.frozen_of_heap HEw1.out.b8 1
      have y82 : w1.cell? ⟨w.heap.size + 1, 2, none⟩ = some (.int .i64 0) := by rw [Lib.cell_of_heap HEw1.out.b8]; rfl
      have f82 : w1.frozen? ⟨w.heap.size + 1, 2, none⟩ = false := Lib.frozen_of_heap HEw1.out.b8 2
      go_wp2
      refine bodyPost_ret (by first | (simp [results, Tryd.results11, go_sem, y60, y61, y62, y63, y80, y81, y82]; done) | (simp [results, Tryd.results11, go_sem, y60, y61, y62, y63, y80, y81, y82]; rfl)) rfl ⟨?_, ?_⟩
      · rw [HRE.out]
        rfl
      · exact ((((((HEw1.out.bel.setCell (Nat.le_refl _) _).setCell (Nat.le_refl _) _).setCell (Nat.le_refl _) _).setCell (Nat.le_refl _) _).setCell (Nat.le_succ _) _).setCell (Nat.le_succ _) _).setCell (Nat.le_succ _) _
end Go.Proofs.YtoodpajbefffhaaDoor
