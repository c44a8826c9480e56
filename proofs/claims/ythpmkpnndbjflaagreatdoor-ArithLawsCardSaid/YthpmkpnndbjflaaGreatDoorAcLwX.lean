/- ArithLaws: the law's walk (gen_aclx.py). -/
import Derived.Test.YthpmkpnndbjflaaGreatDoorKLv
namespace Go.Proofs.YthpmkpnndbjflaaGreatDoor
open Go.RowKit Go.WideMaps Go.Maps

set_option maxRecDepth 100000 in
set_option maxHeartbeats 32000000 in
theorem laws_any (va vb vl : Value) (a b : List Int) (LV : Vl) (s : Nat → Addr) (w : World) (ha : Sl w va a) (hb : Sl w vb b) (hv : VS w vl LV) (hlen : LV.length ≤ 9223372036854775807) (hsz : ∀ x ∈ LV, x.1.size ≤ maxLen ∧ x.2.size ≤ maxLen) (hs : Er w s) (hT : TP w) :
    Calls Tryz.prog 6 #[va, vb, vl] w fun e w' => e = .returned (.bool true) ∧ Below w.heap.size w w' := by
  have HPA := Lib.hid (parse_val va a s w ha hs)
  have HPB : Hid (∀ X, Below w.heap.size w X → _) := Lib.hid (fun X hX => parse_val vb b s X (hb.below hX) (hs.below hX))
  have HQA : Hid (∀ X, Below w.heap.size w X → _) := Lib.hid (fun X hX => sets_any va a X (ha.below hX))
  have HQB : Hid (∀ X, Below w.heap.size w X → _) := Lib.hid (fun X hX => sets_any vb b X (hb.below hX))
  have HLA : Hid (∀ X, Below w.heap.size w X → _) := Lib.hid (fun X hX => laid_any vl LV X (hv.below hX) hlen (fun x hx => (hsz x hx).1))
  have HAW : Hid (∀ X, Below w.heap.size w X → _) := Lib.hid (fun X hX => awake4_any s X (hs.below hX) (hT.below hX))
  have HIA : Hid (∀ X, Below w.heap.size w X → a.length ≤ 1000 → _) := Lib.hid (fun X hX hl => in4_any va a X (ha.below hX) hl)
  have HIB : Hid (∀ X, Below w.heap.size w X → b.length ≤ 1000 → _) := Lib.hid (fun X hX hl => in4_any vb b X (hb.below hX) hl)
  obtain ⟨aa, ac, rfl⟩ := esl_parts ha
  obtain ⟨ba, bc, rfl⟩ := esl_parts hb
  obtain ⟨la, lc, rfl⟩ : ∃ la lc, vl = .slice la LV.length lc := by
    rcases hv with ⟨rfl, x, y, h⟩ | ⟨x, y, z, h, _⟩
    · exact ⟨x, y, h⟩
    · exact ⟨_, z, h⟩
  have HSZ := Lib.hid hsz
  have HER := Lib.hid hs
  have HTP := Lib.hid hT
  have HYA := Lib.hid ha.1
  have HYB := Lib.hid hb.1
  clear ha hb hv hlen hsz hs hT
  obtain ⟨n, hn⟩ : ∃ n, n = a.length := ⟨_, rfl⟩
  obtain ⟨m, hm⟩ : ∃ m, m = b.length := ⟨_, rfl⟩
  have HN := Lib.hid hn
  have HM := Lib.hid hm
  rw [← hn] at HPA HQA HIA
  rw [← hm] at HPB HQB HIB
  rw [← hn, ← hm]
  clear hn hm
  go_enter Tryz.func6, Tryz.ntmps6
  go_wp2_with fail
  refine HPA.out.mono ?_
  rintro e w1 ⟨⟨pa, ea, rfl, hea⟩, hb1⟩
  have HB1 := Lib.hid hb1
  have HEA := Lib.hid hea
  clear hb1 hea HPA
  go_wp2_with fail
  refine (HPB.out w1 HB1.out).mono ?_
  rintro e w2 ⟨⟨pb, eb, rfl, heb⟩, hb2⟩
  have HB2 := Lib.hid (HB1.out.trans (hb2.mono HB1.out.size))
  have HEB := Lib.hid heb
  clear hb2 heb HPB HB1
  by_cases hln : 200 < n
  case pos =>
    have h1 : (200 : Int) < (n : Int) := by omega
    have h1d : decide ((200 : Int) < (n : Int)) = true := decide_eq_true h1
    go_wp2_with fail
    refine (HAW.out w2 HB2.out).mono ?_
    rintro e wz ⟨rfl, hbz⟩
    have HBZ := Lib.hid (HB2.out.trans (hbz.mono HB2.out.size))
    clear hbz
    go_wp2_with fail
    go_ret
    exact ⟨rfl, HBZ.out⟩
  have h1 : ¬ (200 : Int) < (n : Int) := by omega
  have h1d : decide ((200 : Int) < (n : Int)) = false := decide_eq_false h1
  by_cases hlm : 200 < m
  case pos =>
    have h2 : (200 : Int) < (m : Int) := by omega
    have h2d : decide ((200 : Int) < (m : Int)) = true := decide_eq_true h2
    go_wp2_with fail
    refine (HAW.out w2 HB2.out).mono ?_
    rintro e wz ⟨rfl, hbz⟩
    have HBZ := Lib.hid (HB2.out.trans (hbz.mono HB2.out.size))
    clear hbz
    go_wp2_with fail
    go_ret
    exact ⟨rfl, HBZ.out⟩
  have h2 : ¬ (200 : Int) < (m : Int) := by omega
  have h2d : decide ((200 : Int) < (m : Int)) = false := decide_eq_false h2
  go_wp2_with fail
  refine (HQA.out w2 HB2.out).mono ?_
  rintro e w3 ⟨⟨qa, rfl, hqa⟩, hb3⟩
  have HB3 := Lib.hid (HB2.out.trans (hb3.mono HB2.out.size))
  have HNA := Lib.hid hqa
  clear hb3 hqa HQA HB2
  cases qa with
  | true =>
    go_wp2_with fail
    refine (HAW.out w3 HB3.out).mono ?_
    rintro e wz ⟨rfl, hbz⟩
    have HBZ := Lib.hid (HB3.out.trans (hbz.mono HB3.out.size))
    clear hbz
    go_wp2_with fail
    go_ret
    exact ⟨rfl, HBZ.out⟩
  | false =>
  go_wp2_with fail
  refine (HQB.out w3 HB3.out).mono ?_
  rintro e w4 ⟨⟨qb, rfl, hqb⟩, hb4⟩
  have HB4 := Lib.hid (HB3.out.trans (hb4.mono HB3.out.size))
  have HNB := Lib.hid hqb
  clear hb4 hqb HQB HB3
  cases qb with
  | true =>
    go_wp2_with fail
    refine (HAW.out w4 HB4.out).mono ?_
    rintro e wz ⟨rfl, hbz⟩
    have HBZ := Lib.hid (HB4.out.trans (hbz.mono HB4.out.size))
    clear hbz
    go_wp2_with fail
    go_ret
    exact ⟨rfl, HBZ.out⟩
  | false =>
  rcases HEA.out with ⟨rfl, na, ta, ka, hpa⟩ | ⟨y, rfl⟩
  rotate_left
  · skip
    go_wp2_with fail
    refine (HAW.out w4 HB4.out).mono ?_
    rintro e wz ⟨rfl, hbz⟩
    have HBZ := Lib.hid (HB4.out.trans (hbz.mono HB4.out.size))
    clear hbz
    go_wp2_with fail
    go_ret
    exact ⟨rfl, HBZ.out⟩
  rcases HEB.out with ⟨rfl, nb, tb, kb, hpb⟩ | ⟨y, rfl⟩
  rotate_left
  · skip
    go_wp2_with fail
    refine (HAW.out w4 HB4.out).mono ?_
    rintro e wz ⟨rfl, hbz⟩
    have HBZ := Lib.hid (HB4.out.trans (hbz.mono HB4.out.size))
    clear hbz
    go_wp2_with fail
    go_ret
    exact ⟨rfl, HBZ.out⟩
  obtain ⟨M, hM⟩ : ∃ M, M = laidV (LV.take 40) := ⟨_, rfl⟩
  have HMX : Hid (∀ x ∈ M, x.2.size ≤ 9223372036854775807) := Lib.hid (fun x hx => by
    rw [hM] at hx
    have h1 := (HSZ.out x (List.mem_of_mem_take (mem_laidV hx).1)).2
    unfold maxLen at h1
    omega)
  obtain ⟨xa, oka, hOA⟩ := out_of (l := M) HYA.out (HNA.out (by simp)) (by have := HN.out; omega) hpa
  obtain ⟨xb, okb, hOB⟩ := out_of (l := M) HYB.out (HNB.out (by simp)) (by have := HM.out; omega) hpb
  have HOA := Lib.hid hOA
  have HOB := Lib.hid hOB
  have HHM := Lib.hid hM
  clear hpa hpb hOA hOB hM HNA HNB HEA HEB
  go_wp2_with fail
  refine (HLA.out w4 HB4.out).mono ?_
  rintro e X0 ⟨vb, mo, vm, rfl, hi⟩
  rw [← HHM.out] at hi
  have HVA := Lib.hid hi.va
  have HB5 := Lib.hid (HB4.out.trans (hi.bel.mono HB4.out.size))
  clear hi HLA HHM HSZ HB4
  go_upto_region 6 with fail
  obtain ⟨W5, hW5⟩ : ∃ W5, W5 = X0.alloc (.cells #[.pointer (some ⟨vb, 0, none⟩)] 23) := ⟨_, rfl⟩
  rw [← hW5]
  have hbx : Below X0.heap.size X0 W5 := by rw [hW5]; exact (Below.refl _ _).alloc (Nat.le_refl _) _
  have hcx : W5.cell? ⟨X0.heap.size, 0, none⟩ = some (.pointer (some ⟨vb, 0, none⟩)) := by rw [hW5]; exact (Lib.cell_of_heap (last_A X0 _) 0).trans rfl
  have hbz : X0.heap.size < W5.heap.size := by rw [hW5]; simp
  have HBC := Lib.hid hcx
  have HBZ := Lib.hid hbz
  have HV5 := Lib.hid (HVA.out.below hbx)
  have HB6 := Lib.hid (HB5.out.trans (hbx.mono HB5.out.size))
  generalize X0.heap.size = bx at *
  clear hW5 hbx hcx hbz HVA HB5
  have HIP : Hid (⟨#[40]⟩ ++ ofBys a ++ ⟨#[41]⟩ = inP a) := rfl
  have HIQ : Hid (⟨#[40]⟩ ++ ofBys b ++ ⟨#[41]⟩ = inP b) := rfl
  have HEV : Hid (∀ (c : List Int) (str : ByteArray) (x : Int) (ok : Bool) (X : World), Below W5.heap.size W5 X → OutW M c str x ok → Calls Tryz.prog 32 #[.string str, .pointer (some ⟨vb, 0, none⟩)] X fun e w' => e = .returned (.tuple #[.int .i64 x, .bool ok]) ∧ Below X.heap.size X w') := Lib.hid (fun c str x ok X hX h => eval4_out h (HV5.out.below hX) HMX.out (HER.out.below (HB6.out.trans (hX.mono HB6.out.size))) (HTP.out.below (HB6.out.trans (hX.mono HB6.out.size))))
  have HJA : Hid (∀ X, Below W5.heap.size W5 X → Calls Tryz.prog 33 #[.slice aa n ac] X fun e w' => e = .returned (.string (inP a)) ∧ X = w') := Lib.hid (fun X hX => HIA.out X (HB6.out.trans (hX.mono HB6.out.size)) (by have := HN.out; omega))
  have HJB : Hid (∀ X, Below W5.heap.size W5 X → Calls Tryz.prog 33 #[.slice ba m bc] X fun e w' => e = .returned (.string (inP b)) ∧ X = w') := Lib.hid (fun X hX => HIB.out X (HB6.out.trans (hX.mono HB6.out.size)) (by have := HM.out; omega))
  refine Reg.wp_region_vals (fun X => Below W5.heap.size W5 X) (fun j => ([some (.slice aa n ac), some (.string (inP a)), some (.pointer (some ⟨vb, 0, none⟩)), some (.tuple #[.int .i64 xa, .bool oka]), some (.tuple #[.int .i64 xa, .bool oka]), some (.int .i64 xa), some (.bool oka), some (.int .i64 xa), some (.bool oka)] : List (Option Value)).getD j none) (fun _ _ _ => True) (by kernel_rfl) (by kernel_rfl) (by kernel_rfl) (by kernel_rfl) ?rs0 ?rsE ?rsZ
  case rs0 => exact (Below.refl _ _).drew
  case rsE =>
    refine Reg.EachV.plain rfl (fun T X hS hk K hK => ?_) ?_
    · skip
      have g0 : T[0]? = some (.slice aa n ac) := hk.old 0 (by kernel_rfl) rfl
      have hK := hK _ X hS (Reg.Is.of_val rfl) (fun _ _ _ h => h)
      clear hk
      go_simp
      exact hK
    refine Reg.EachV.plain rfl (fun T X hS hk K hK => ?_) ?_
    · skip
      have g65 : T[65]? = some (.slice aa n ac) := hk.val 0 65 (by kernel_rfl) (by kernel_rfl) rfl
      clear hk
      go_simp
      refine (HJA.out X (hS)).mono ?_
      rintro e w1 ⟨rfl, rfl⟩
      exact hK _ _ (hS) (Reg.Is.of_val rfl) (fun _ _ _ h => h)
    refine Reg.EachV.plain rfl (fun T X hS hk K hK => ?_) ?_
    · skip
      have g11 : T[11]? = some (.pointer (some ⟨bx, 0, none⟩)) := hk.old 11 (by kernel_rfl) rfl
      have q0 : X.cell? ⟨bx, 0, none⟩ = some (.pointer (some ⟨vb, 0, none⟩)) := ((hS).cell (p := ⟨bx, 0, none⟩) HBZ.out).trans HBC.out
      have hK := hK _ X hS (Reg.Is.of_val rfl) (fun _ _ _ h => h)
      clear hk hS
      go_simp
      exact hK
    refine Reg.EachV.plain rfl (fun T X hS hk K hK => ?_) ?_
    · skip
      have g66 : T[66]? = some (.string (inP a)) := hk.val 1 66 (by kernel_rfl) (by kernel_rfl) rfl
      have g67 : T[67]? = some (.pointer (some ⟨vb, 0, none⟩)) := hk.val 2 67 (by kernel_rfl) (by kernel_rfl) rfl
      clear hk
      go_simp
      refine (HEV.out a (inP a) xa oka X (hS) HOA.out).mono ?_
      rintro e w1 ⟨rfl, hb⟩
      exact hK _ _ (hS.trans (hb.mono hS.size)) (Reg.Is.of_val rfl) (fun _ _ _ h => h)
    refine Reg.EachV.plain rfl (fun T X hS hk K hK => ?_) ?_
    · skip
      have g68 : T[68]? = some (.tuple #[.int .i64 xa, .bool oka]) := hk.val 3 68 (by kernel_rfl) (by kernel_rfl) rfl
      have hK := hK _ X hS (Reg.Is.of_val rfl) (fun _ _ _ h => h)
      clear hk
      go_simp
      exact hK
    refine Reg.EachV.plain rfl (fun T X hS hk K hK => ?_) ?_
    · skip
      have g64 : T[64]? = some (.tuple #[.int .i64 xa, .bool oka]) := hk.val 4 64 (by kernel_rfl) (by kernel_rfl) rfl
      have hK := hK _ X hS (Reg.Is.of_val rfl) (fun _ _ _ h => h)
      clear hk
      go_simp
      exact hK
    refine Reg.EachV.plain rfl (fun T X hS hk K hK => ?_) ?_
    · skip
      have g64 : T[64]? = some (.tuple #[.int .i64 xa, .bool oka]) := hk.val 4 64 (by kernel_rfl) (by kernel_rfl) rfl
      have hK := hK _ X hS (Reg.Is.of_val rfl) (fun _ _ _ h => h)
      clear hk
      go_simp
      exact hK
    refine Reg.EachV.plain rfl (fun T X hS hk K hK => ?_) ?_
    · skip
      have g69 : T[69]? = some (.int .i64 xa) := hk.val 5 69 (by kernel_rfl) (by kernel_rfl) rfl
      have hK := hK _ X hS (Reg.Is.of_val rfl) (fun _ _ _ h => h)
      clear hk
      go_simp
      exact hK
    refine Reg.EachV.plain rfl (fun T X hS hk K hK => ?_) ?_
    · skip
      have g70 : T[70]? = some (.bool oka) := hk.val 6 70 (by kernel_rfl) (by kernel_rfl) rfl
      have hK := hK _ X hS (Reg.Is.of_val rfl) (fun _ _ _ h => h)
      clear hk
      go_simp
      exact hK
    exact Reg.EachV.nil
  case rsZ =>
    intro u w6 hS hI
    have e0 : u 0 = .slice aa n ac := (hI 0 (by decide)).val rfl
    have e1 : u 1 = .string (inP a) := (hI 1 (by decide)).val rfl
    have e2 : u 2 = .pointer (some ⟨vb, 0, none⟩) := (hI 2 (by decide)).val rfl
    have e3 : u 3 = .tuple #[.int .i64 xa, .bool oka] := (hI 3 (by decide)).val rfl
    have e4 : u 4 = .tuple #[.int .i64 xa, .bool oka] := (hI 4 (by decide)).val rfl
    have e5 : u 5 = .int .i64 xa := (hI 5 (by decide)).val rfl
    have e6 : u 6 = .bool oka := (hI 6 (by decide)).val rfl
    have e7 : u 7 = .int .i64 xa := (hI 7 (by decide)).val rfl
    have e8 : u 8 = .bool oka := (hI 8 (by decide)).val rfl
    clear hI
    simp only [Reg.putAll, Act.put, List.setIfInBounds_toArray, List.set_cons_succ, List.set_cons_zero, Nat.zero_add, Nat.reduceAdd, e0, e1, e2, e3, e4, e5, e6, e7, e8]
    clear e0 e1 e2 e3 e4 e5 e6 e7 e8
    have HC6 := Lib.hid (hS)
    clear hS
    go_upto_region 7 with fail
    refine Reg.wp_region_vals (fun X => Below w6.heap.size w6 X) (fun j => ([some (.slice ba m bc), some (.string (inP b)), some (.pointer (some ⟨vb, 0, none⟩)), some (.tuple #[.int .i64 xb, .bool okb]), some (.tuple #[.int .i64 xb, .bool okb]), some (.int .i64 xb), some (.bool okb), some (.int .i64 xb), some (.bool okb)] : List (Option Value)).getD j none) (fun _ _ _ => True) (by kernel_rfl) (by kernel_rfl) (by kernel_rfl) (by kernel_rfl) ?rs0 ?rsE ?rsZ
    case rs0 => exact (Below.refl _ _).drew
    case rsE =>
      refine Reg.EachV.plain rfl (fun T X hS hk K hK => ?_) ?_
      · skip
        have g1 : T[1]? = some (.slice ba m bc) := hk.old 1 (by kernel_rfl) rfl
        have hK := hK _ X hS (Reg.Is.of_val rfl) (fun _ _ _ h => h)
        clear hk
        go_simp
        exact hK
      refine Reg.EachV.plain rfl (fun T X hS hk K hK => ?_) ?_
      · skip
        have g72 : T[72]? = some (.slice ba m bc) := hk.val 0 72 (by kernel_rfl) (by kernel_rfl) rfl
        clear hk
        go_simp
        refine (HJB.out X ((HC6.out).trans ((hS).mono (HC6.out).size))).mono ?_
        rintro e w1 ⟨rfl, rfl⟩
        exact hK _ _ (hS) (Reg.Is.of_val rfl) (fun _ _ _ h => h)
      refine Reg.EachV.plain rfl (fun T X hS hk K hK => ?_) ?_
      · skip
        have g11 : T[11]? = some (.pointer (some ⟨bx, 0, none⟩)) := hk.old 11 (by kernel_rfl) rfl
        have q0 : X.cell? ⟨bx, 0, none⟩ = some (.pointer (some ⟨vb, 0, none⟩)) := (((HC6.out).trans ((hS).mono (HC6.out).size)).cell (p := ⟨bx, 0, none⟩) HBZ.out).trans HBC.out
        have hK := hK _ X hS (Reg.Is.of_val rfl) (fun _ _ _ h => h)
        clear hk hS
        go_simp
        exact hK
      refine Reg.EachV.plain rfl (fun T X hS hk K hK => ?_) ?_
      · skip
        have g73 : T[73]? = some (.string (inP b)) := hk.val 1 73 (by kernel_rfl) (by kernel_rfl) rfl
        have g74 : T[74]? = some (.pointer (some ⟨vb, 0, none⟩)) := hk.val 2 74 (by kernel_rfl) (by kernel_rfl) rfl
        clear hk
        go_simp
        refine (HEV.out b (inP b) xb okb X ((HC6.out).trans ((hS).mono (HC6.out).size)) HOB.out).mono ?_
        rintro e w1 ⟨rfl, hb⟩
        exact hK _ _ (hS.trans (hb.mono hS.size)) (Reg.Is.of_val rfl) (fun _ _ _ h => h)
      refine Reg.EachV.plain rfl (fun T X hS hk K hK => ?_) ?_
      · skip
        have g75 : T[75]? = some (.tuple #[.int .i64 xb, .bool okb]) := hk.val 3 75 (by kernel_rfl) (by kernel_rfl) rfl
        have hK := hK _ X hS (Reg.Is.of_val rfl) (fun _ _ _ h => h)
        clear hk
        go_simp
        exact hK
      refine Reg.EachV.plain rfl (fun T X hS hk K hK => ?_) ?_
      · skip
        have g71 : T[71]? = some (.tuple #[.int .i64 xb, .bool okb]) := hk.val 4 71 (by kernel_rfl) (by kernel_rfl) rfl
        have hK := hK _ X hS (Reg.Is.of_val rfl) (fun _ _ _ h => h)
        clear hk
        go_simp
        exact hK
      refine Reg.EachV.plain rfl (fun T X hS hk K hK => ?_) ?_
      · skip
        have g71 : T[71]? = some (.tuple #[.int .i64 xb, .bool okb]) := hk.val 4 71 (by kernel_rfl) (by kernel_rfl) rfl
        have hK := hK _ X hS (Reg.Is.of_val rfl) (fun _ _ _ h => h)
        clear hk
        go_simp
        exact hK
      refine Reg.EachV.plain rfl (fun T X hS hk K hK => ?_) ?_
      · skip
        have g76 : T[76]? = some (.int .i64 xb) := hk.val 5 76 (by kernel_rfl) (by kernel_rfl) rfl
        have hK := hK _ X hS (Reg.Is.of_val rfl) (fun _ _ _ h => h)
        clear hk
        go_simp
        exact hK
      refine Reg.EachV.plain rfl (fun T X hS hk K hK => ?_) ?_
      · skip
        have g77 : T[77]? = some (.bool okb) := hk.val 6 77 (by kernel_rfl) (by kernel_rfl) rfl
        have hK := hK _ X hS (Reg.Is.of_val rfl) (fun _ _ _ h => h)
        clear hk
        go_simp
        exact hK
      exact Reg.EachV.nil
    case rsZ =>
      intro u w7 hS hI
      have e0 : u 0 = .slice ba m bc := (hI 0 (by decide)).val rfl
      have e1 : u 1 = .string (inP b) := (hI 1 (by decide)).val rfl
      have e2 : u 2 = .pointer (some ⟨vb, 0, none⟩) := (hI 2 (by decide)).val rfl
      have e3 : u 3 = .tuple #[.int .i64 xb, .bool okb] := (hI 3 (by decide)).val rfl
      have e4 : u 4 = .tuple #[.int .i64 xb, .bool okb] := (hI 4 (by decide)).val rfl
      have e5 : u 5 = .int .i64 xb := (hI 5 (by decide)).val rfl
      have e6 : u 6 = .bool okb := (hI 6 (by decide)).val rfl
      have e7 : u 7 = .int .i64 xb := (hI 7 (by decide)).val rfl
      have e8 : u 8 = .bool okb := (hI 8 (by decide)).val rfl
      clear hI
      simp only [Reg.putAll, Act.put, List.setIfInBounds_toArray, List.set_cons_succ, List.set_cons_zero, Nat.zero_add, Nat.reduceAdd, e0, e1, e2, e3, e4, e5, e6, e7, e8]
      clear e0 e1 e2 e3 e4 e5 e6 e7 e8
      have HC7 := Lib.hid ((HC6.out).trans ((hS).mono (HC6.out).size))
      clear hS
      have HD7 := Lib.hid (HB6.out.trans (HC7.out.mono HB6.out.size))
      cases oka with
      | false =>
        go_wp2_with fail
        refine (HAW.out w7 HD7.out).mono ?_
        rintro e wz ⟨rfl, hbz⟩
        have HBZ := Lib.hid (HD7.out.trans (hbz.mono HD7.out.size))
        clear hbz
        go_wp2_with fail
        go_ret
        exact ⟨rfl, HBZ.out⟩
      | true =>
      cases okb with
      | false =>
        go_wp2_with fail
        refine (HAW.out w7 HD7.out).mono ?_
        rintro e wz ⟨rfl, hbz⟩
        have HBZ := Lib.hid (HD7.out.trans (hbz.mono HD7.out.size))
        clear hbz
        go_wp2_with fail
        go_ret
        exact ⟨rfl, HBZ.out⟩
      | true =>
      have hpr : Pair M (40 :: (a ++ [41])) (40 :: (b ++ [41])) xa xb (inP a) (inP b) ∧ I64 xa := by
        rcases HOA.out with ⟨_, h1, _, h3⟩ | ⟨h, _⟩
        · rcases HOB.out with ⟨_, k1, _, k3⟩ | ⟨h, _⟩
          · exact ⟨⟨h1, k1, by simp only [List.length_cons, List.length_append, List.length_nil]; have := HN.out; omega, by simp only [List.length_cons, List.length_append, List.length_nil]; have := HM.out; omega, inP_bys HYA.out, inP_bys HYB.out⟩, h3⟩
          · cases h
        · cases h
      have HPR := Lib.hid hpr.1
      have HXI := Lib.hid hpr.2
      have zp : (inP a).size = n + 2 := by rw [HN.out]; exact inP_size a
      have zq : (inP b).size = m + 2 := by rw [HM.out]; exact inP_size b
      have HSM : Hid (∀ (x y : ByteArray) (v : Int) (X : World), Below W5.heap.size W5 X → Worth M x v → Worth M y v → Calls Tryz.prog 34 #[.string x, .string y, .pointer (some ⟨bx, 0, none⟩)] X fun e w' => e = .returned (.bool true) ∧ Below X.heap.size X w') := Lib.hid (fun x y v X hX h1 h2 => same4_any bx vb 40 mo M x y v s X h1 h2 (by have := HBZ.out; have := hX.size; omega) ((hX.cell (p := ⟨bx, 0, none⟩) HBZ.out).trans HBC.out) (HV5.out.below hX) HMX.out (HER.out.below (HB6.out.trans (hX.mono HB6.out.size))) (HTP.out.below (HB6.out.trans (hX.mono HB6.out.size))))
      have HEW : Hid (∀ (x : ByteArray) (v : Int) (X : World), Below W5.heap.size W5 X → Worth M x v → Calls Tryz.prog 32 #[.string x, .pointer (some ⟨vb, 0, none⟩)] X fun e w' => e = .returned (.tuple #[.int .i64 v, .bool true]) ∧ Below X.heap.size X w') := Lib.hid (fun x v X hX h => eval4_wo h (HV5.out.below hX) HMX.out (HER.out.below (HB6.out.trans (hX.mono HB6.out.size))) (HTP.out.below (HB6.out.trans (hX.mono HB6.out.size))))
      clear hpr HOA HOB
      generalize inP a = P at *
      generalize inP b = Q at *
      have z0 : Hid ((P ++ ⟨#[43]⟩ : ByteArray).size = (n + 2) + 1) := Lib.hid (by simp only [ByteArray.size_append, zp]; rfl)
      have z1 : Hid ((P ++ ⟨#[43]⟩ ++ Q : ByteArray).size = (n + 2) + 1 + (m + 2)) := Lib.hid (by simp only [ByteArray.size_append, zp, zq]; rfl)
      have z2 : Hid ((Q ++ ⟨#[43]⟩ : ByteArray).size = (m + 2) + 1) := Lib.hid (by simp only [ByteArray.size_append, zq]; rfl)
      have z3 : Hid ((Q ++ ⟨#[43]⟩ ++ P : ByteArray).size = (m + 2) + 1 + (n + 2)) := Lib.hid (by simp only [ByteArray.size_append, zp, zq]; rfl)
      have z4 : Hid ((P ++ ⟨#[42]⟩ : ByteArray).size = (n + 2) + 1) := Lib.hid (by simp only [ByteArray.size_append, zp]; rfl)
      have z5 : Hid ((P ++ ⟨#[42]⟩ ++ Q : ByteArray).size = (n + 2) + 1 + (m + 2)) := Lib.hid (by simp only [ByteArray.size_append, zp, zq]; rfl)
      have z6 : Hid ((Q ++ ⟨#[42]⟩ : ByteArray).size = (m + 2) + 1) := Lib.hid (by simp only [ByteArray.size_append, zq]; rfl)
      have z7 : Hid ((Q ++ ⟨#[42]⟩ ++ P : ByteArray).size = (m + 2) + 1 + (n + 2)) := Lib.hid (by simp only [ByteArray.size_append, zp, zq]; rfl)
      have z8 : Hid ((P ++ ⟨#[45]⟩ : ByteArray).size = (n + 2) + 1) := Lib.hid (by simp only [ByteArray.size_append, zp]; rfl)
      have z9 : Hid ((P ++ ⟨#[45]⟩ ++ Q : ByteArray).size = (n + 2) + 1 + (m + 2)) := Lib.hid (by simp only [ByteArray.size_append, zp, zq]; rfl)
      have z10 : Hid ((P ++ ⟨#[43, 32, 45]⟩ : ByteArray).size = (n + 2) + 3) := Lib.hid (by simp only [ByteArray.size_append, zp]; rfl)
      have z11 : Hid ((P ++ ⟨#[43, 32, 45]⟩ ++ Q : ByteArray).size = (n + 2) + 3 + (m + 2)) := Lib.hid (by simp only [ByteArray.size_append, zp, zq]; rfl)
      have z12 : Hid ((⟨#[126, 40]⟩ ++ P : ByteArray).size = 2 + (n + 2)) := Lib.hid (by simp only [ByteArray.size_append, zp]; rfl)
      have z13 : Hid ((⟨#[126, 40]⟩ ++ P ++ ⟨#[38]⟩ : ByteArray).size = 2 + (n + 2) + 1) := Lib.hid (by simp only [ByteArray.size_append, zp]; rfl)
      have z14 : Hid ((⟨#[126, 40]⟩ ++ P ++ ⟨#[38]⟩ ++ Q : ByteArray).size = 2 + (n + 2) + 1 + (m + 2)) := Lib.hid (by simp only [ByteArray.size_append, zp, zq]; rfl)
      have z15 : Hid ((⟨#[126, 40]⟩ ++ P ++ ⟨#[38]⟩ ++ Q ++ ⟨#[41]⟩ : ByteArray).size = 2 + (n + 2) + 1 + (m + 2) + 1) := Lib.hid (by simp only [ByteArray.size_append, zp, zq]; rfl)
      have z16 : Hid ((⟨#[126]⟩ ++ P : ByteArray).size = 1 + (n + 2)) := Lib.hid (by simp only [ByteArray.size_append, zp]; rfl)
      have z17 : Hid ((⟨#[126]⟩ ++ P ++ ⟨#[124, 126]⟩ : ByteArray).size = 1 + (n + 2) + 2) := Lib.hid (by simp only [ByteArray.size_append, zp]; rfl)
      have z18 : Hid ((⟨#[126]⟩ ++ P ++ ⟨#[124, 126]⟩ ++ Q : ByteArray).size = 1 + (n + 2) + 2 + (m + 2)) := Lib.hid (by simp only [ByteArray.size_append, zp, zq]; rfl)
      have z19 : Hid ((⟨#[33, 40]⟩ ++ P : ByteArray).size = 2 + (n + 2)) := Lib.hid (by simp only [ByteArray.size_append, zp]; rfl)
      have z20 : Hid ((⟨#[33, 40]⟩ ++ P ++ ⟨#[38, 38]⟩ : ByteArray).size = 2 + (n + 2) + 2) := Lib.hid (by simp only [ByteArray.size_append, zp]; rfl)
      have z21 : Hid ((⟨#[33, 40]⟩ ++ P ++ ⟨#[38, 38]⟩ ++ Q : ByteArray).size = 2 + (n + 2) + 2 + (m + 2)) := Lib.hid (by simp only [ByteArray.size_append, zp, zq]; rfl)
      have z22 : Hid ((⟨#[33, 40]⟩ ++ P ++ ⟨#[38, 38]⟩ ++ Q ++ ⟨#[41]⟩ : ByteArray).size = 2 + (n + 2) + 2 + (m + 2) + 1) := Lib.hid (by simp only [ByteArray.size_append, zp, zq]; rfl)
      have z23 : Hid ((⟨#[33]⟩ ++ P : ByteArray).size = 1 + (n + 2)) := Lib.hid (by simp only [ByteArray.size_append, zp]; rfl)
      have z24 : Hid ((⟨#[33]⟩ ++ P ++ ⟨#[124, 124, 33]⟩ : ByteArray).size = 1 + (n + 2) + 3) := Lib.hid (by simp only [ByteArray.size_append, zp]; rfl)
      have z25 : Hid ((⟨#[33]⟩ ++ P ++ ⟨#[124, 124, 33]⟩ ++ Q : ByteArray).size = 1 + (n + 2) + 3 + (m + 2)) := Lib.hid (by simp only [ByteArray.size_append, zp, zq]; rfl)
      have z26 : Hid ((P ++ ⟨#[60]⟩ : ByteArray).size = (n + 2) + 1) := Lib.hid (by simp only [ByteArray.size_append, zp]; rfl)
      have z27 : Hid ((P ++ ⟨#[60]⟩ ++ Q : ByteArray).size = (n + 2) + 1 + (m + 2)) := Lib.hid (by simp only [ByteArray.size_append, zp, zq]; rfl)
      have z28 : Hid ((Q ++ ⟨#[62]⟩ : ByteArray).size = (m + 2) + 1) := Lib.hid (by simp only [ByteArray.size_append, zq]; rfl)
      have z29 : Hid ((Q ++ ⟨#[62]⟩ ++ P : ByteArray).size = (m + 2) + 1 + (n + 2)) := Lib.hid (by simp only [ByteArray.size_append, zp, zq]; rfl)
      have z30 : Hid ((P ++ ⟨#[60, 61]⟩ : ByteArray).size = (n + 2) + 2) := Lib.hid (by simp only [ByteArray.size_append, zp]; rfl)
      have z31 : Hid ((P ++ ⟨#[60, 61]⟩ ++ Q : ByteArray).size = (n + 2) + 2 + (m + 2)) := Lib.hid (by simp only [ByteArray.size_append, zp, zq]; rfl)
      have z32 : Hid ((⟨#[33, 40]⟩ ++ P ++ ⟨#[62]⟩ : ByteArray).size = 2 + (n + 2) + 1) := Lib.hid (by simp only [ByteArray.size_append, zp]; rfl)
      have z33 : Hid ((⟨#[33, 40]⟩ ++ P ++ ⟨#[62]⟩ ++ Q : ByteArray).size = 2 + (n + 2) + 1 + (m + 2)) := Lib.hid (by simp only [ByteArray.size_append, zp, zq]; rfl)
      have z34 : Hid ((⟨#[33, 40]⟩ ++ P ++ ⟨#[62]⟩ ++ Q ++ ⟨#[41]⟩ : ByteArray).size = 2 + (n + 2) + 1 + (m + 2) + 1) := Lib.hid (by simp only [ByteArray.size_append, zp, zq]; rfl)
      have z35 : Hid ((P ++ ⟨#[47]⟩ : ByteArray).size = (n + 2) + 1) := Lib.hid (by simp only [ByteArray.size_append, zp]; rfl)
      have z36 : Hid ((P ++ ⟨#[47]⟩ ++ Q : ByteArray).size = (n + 2) + 1 + (m + 2)) := Lib.hid (by simp only [ByteArray.size_append, zp, zq]; rfl)
      have z37 : Hid ((P ++ ⟨#[37]⟩ : ByteArray).size = (n + 2) + 1) := Lib.hid (by simp only [ByteArray.size_append, zp]; rfl)
      have z38 : Hid ((P ++ ⟨#[37]⟩ ++ Q : ByteArray).size = (n + 2) + 1 + (m + 2)) := Lib.hid (by simp only [ByteArray.size_append, zp, zq]; rfl)
      have HS0 : Hid (∀ X, Below W5.heap.size W5 X → _) := Lib.hid (fun X hX => HSM.out (P ++ ⟨#[43]⟩ ++ Q) (Q ++ ⟨#[43]⟩ ++ P) (wrap64 (xa + xb)) X hX (pair_add HPR.out) (by rw [Int.add_comm]; exact pair_add HPR.out.swap))
      have HS1 : Hid (∀ X, Below W5.heap.size W5 X → _) := Lib.hid (fun X hX => HSM.out (P ++ ⟨#[42]⟩ ++ Q) (Q ++ ⟨#[42]⟩ ++ P) (wrap64 (xa * xb)) X hX (pair_mul HPR.out) (by rw [Int.mul_comm]; exact pair_mul HPR.out.swap))
      have HS2 : Hid (∀ X, Below W5.heap.size W5 X → _) := Lib.hid (fun X hX => HSM.out (P ++ ⟨#[45]⟩ ++ Q) (P ++ ⟨#[43, 32, 45]⟩ ++ Q) (wrap64 (xa - xb)) X hX (pair_sub HPR.out) (pair_turn HPR.out))
      have HS3 : Hid (∀ X, Below W5.heap.size W5 X → _) := Lib.hid (fun X hX => HSM.out (⟨#[126, 40]⟩ ++ P ++ ⟨#[38]⟩ ++ Q ++ ⟨#[41]⟩) (⟨#[126]⟩ ++ P ++ ⟨#[124, 126]⟩ ++ Q) (bits .xor .i64 (-1) (bits .and .i64 xa xb)) X hX (pair_nand HPR.out) (pair_nor HPR.out))
      have HS4 : Hid (∀ X, Below W5.heap.size W5 X → _) := Lib.hid (fun X hX => HSM.out (⟨#[33, 40]⟩ ++ P ++ ⟨#[38, 38]⟩ ++ Q ++ ⟨#[41]⟩) (⟨#[33]⟩ ++ P ++ ⟨#[124, 124, 33]⟩ ++ Q) (if xa = 0 ∨ xb = 0 then 1 else 0) X hX (pair_nand2 HPR.out) (pair_nor2 HPR.out))
      have HS5 : Hid (∀ X, Below W5.heap.size W5 X → _) := Lib.hid (fun X hX => HSM.out (P ++ ⟨#[60]⟩ ++ Q) (Q ++ ⟨#[62]⟩ ++ P) (if xa < xb then 1 else 0) X hX (pair_lt HPR.out) (pair_gt HPR.out.swap))
      have HS6 : Hid (∀ X, Below W5.heap.size W5 X → _) := Lib.hid (fun X hX => HSM.out (P ++ ⟨#[60, 61]⟩ ++ Q) (⟨#[33, 40]⟩ ++ P ++ ⟨#[62]⟩ ++ Q ++ ⟨#[41]⟩) (if xa ≤ xb then 1 else 0) X hX (pair_le HPR.out) (pair_ngt HPR.out))
      clear HSM
      go_wp2_with fail
      refine (HJA.out w7 HC7.out).mono ?_
      rintro e wq ⟨rfl, rfl⟩
      go_wp2_with fail
      refine (HJB.out w7 HC7.out).mono ?_
      rintro e wq ⟨rfl, rfl⟩
      have uz0 := z0.out
      have uz1 := z1.out
      have uz2 := z2.out
      have uz3 := z3.out
      go_wp2_with fail
      clear uz0 uz1 uz2 uz3
      refine (HS0.out w7 HC7.out).mono ?_
      rintro e y0 ⟨rfl, hb⟩
      have HY0 := Lib.hid (HC7.out.trans (hb.mono HC7.out.size))
      clear hb HS0 HC7
      have uz4 := z4.out
      have uz5 := z5.out
      have uz6 := z6.out
      have uz7 := z7.out
      go_wp2_with fail
      clear uz4 uz5 uz6 uz7
      refine (HS1.out y0 HY0.out).mono ?_
      rintro e y1 ⟨rfl, hb⟩
      have HY1 := Lib.hid (HY0.out.trans (hb.mono HY0.out.size))
      clear hb HS1 HY0
      have uz8 := z8.out
      have uz9 := z9.out
      have uz10 := z10.out
      have uz11 := z11.out
      go_wp2_with fail
      clear uz8 uz9 uz10 uz11
      refine (HS2.out y1 HY1.out).mono ?_
      rintro e y2 ⟨rfl, hb⟩
      have HY2 := Lib.hid (HY1.out.trans (hb.mono HY1.out.size))
      clear hb HS2 HY1
      have uz12 := z12.out
      have uz13 := z13.out
      have uz14 := z14.out
      have uz15 := z15.out
      have uz16 := z16.out
      have uz17 := z17.out
      have uz18 := z18.out
      go_wp2_with fail
      clear uz12 uz13 uz14 uz15 uz16 uz17 uz18
      refine (HS3.out y2 HY2.out).mono ?_
      rintro e y3 ⟨rfl, hb⟩
      have HY3 := Lib.hid (HY2.out.trans (hb.mono HY2.out.size))
      clear hb HS3 HY2
      have uz19 := z19.out
      have uz20 := z20.out
      have uz21 := z21.out
      have uz22 := z22.out
      have uz23 := z23.out
      have uz24 := z24.out
      have uz25 := z25.out
      go_wp2_with fail
      clear uz19 uz20 uz21 uz22 uz23 uz24 uz25
      refine (HS4.out y3 HY3.out).mono ?_
      rintro e y4 ⟨rfl, hb⟩
      have HY4 := Lib.hid (HY3.out.trans (hb.mono HY3.out.size))
      clear hb HS4 HY3
      have uz26 := z26.out
      have uz27 := z27.out
      have uz28 := z28.out
      have uz29 := z29.out
      go_wp2_with fail
      clear uz26 uz27 uz28 uz29
      refine (HS5.out y4 HY4.out).mono ?_
      rintro e y5 ⟨rfl, hb⟩
      have HY5 := Lib.hid (HY4.out.trans (hb.mono HY4.out.size))
      clear hb HS5 HY4
      have uz30 := z30.out
      have uz31 := z31.out
      have uz19 := z19.out
      have uz32 := z32.out
      have uz33 := z33.out
      have uz34 := z34.out
      go_wp2_with fail
      clear uz30 uz31 uz19 uz32 uz33 uz34
      refine (HS6.out y5 HY5.out).mono ?_
      rintro e y6 ⟨rfl, hb⟩
      have HY6 := Lib.hid (HY5.out.trans (hb.mono HY5.out.size))
      clear hb HS6 HY5
      have HD8 := Lib.hid (HB6.out.trans (HY6.out.mono HB6.out.size))
      by_cases hy0 : xb = 0
      case pos =>
        subst hy0
        go_wp2_with fail
        refine (HAW.out y6 HD8.out).mono ?_
        rintro e wz ⟨rfl, hbz⟩
        have HBZ := Lib.hid (HD8.out.trans (hbz.mono HD8.out.size))
        clear hbz
        go_wp2_with fail
        go_ret
        exact ⟨rfl, HBZ.out⟩
      have d0 : decide (xb = 0) = false := decide_eq_false hy0
      have d1 : (xb == 0) = false := beq_eq_false_iff_ne.2 hy0
      have HDV := Lib.hid (pair_div HPR.out hy0)
      have HMO := Lib.hid (pair_mod HPR.out hy0)
      have HQR := Lib.hid (quo_rest (y := xb) HXI.out)
      have qc : y6.cell? ⟨bx, 0, none⟩ = some (.pointer (some ⟨vb, 0, none⟩)) := (HY6.out.cell (p := ⟨bx, 0, none⟩) HBZ.out).trans HBC.out
      have uz35 := z35.out
      have uz36 := z36.out
      go_wp2_with fail
      clear uz35 uz36
      refine (HEW.out _ _ y6 HY6.out HDV.out).mono ?_
      rintro e y7 ⟨rfl, hb⟩
      have HY7 := Lib.hid (HY6.out.trans (hb.mono HY6.out.size))
      clear hb qc
      have qc : y7.cell? ⟨bx, 0, none⟩ = some (.pointer (some ⟨vb, 0, none⟩)) := (HY7.out.cell (p := ⟨bx, 0, none⟩) HBZ.out).trans HBC.out
      have uz37 := z37.out
      have uz38 := z38.out
      go_wp2_with fail
      clear uz37 uz38
      refine (HEW.out _ _ y7 HY7.out HMO.out).mono ?_
      rintro e y8 ⟨rfl, hb⟩
      have HY8 := Lib.hid (HY7.out.trans (hb.mono HY7.out.size))
      have HD9 := Lib.hid (HB6.out.trans (HY8.out.mono HB6.out.size))
      clear hb qc
      have hqr := HQR.out
      unfold wrap64 at hqr
      go_wp2_with fail
      refine (HAW.out y8 HD9.out).mono ?_
      rintro e wz ⟨rfl, hbz⟩
      have HBZ := Lib.hid (HD9.out.trans (hbz.mono HD9.out.size))
      clear hbz
      go_wp2_with fail
      go_ret
      exact ⟨rfl, HBZ.out⟩
end Go.Proofs.YthpmkpnndbjflaaGreatDoor
