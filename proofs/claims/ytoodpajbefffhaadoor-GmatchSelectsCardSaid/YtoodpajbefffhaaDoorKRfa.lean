/- KRfa: several texts in one (kmerge.py). -/
import Derived.Test.YtoodpajbefffhaaDoorKSet
import Derived.Laws.StructEq
import Derived.Deep.RegionHeld3
/- Two sets, compared. -/
namespace Go.Proofs.YtoodpajbefffhaaDoor
open Go.RowKit

theorem u64_info : (Tryd.prog.info? 37).map (fun i => (i.zero, i.size, i.bytes)) = some (some (.int .u64 0), 1, 8) := by kernel_rfl
theorem eq_arr (d : Nat) (x0 x1 x2 x3 y0 y1 y2 y3 : Int) (w : World) :
    (Op.equalIn (d + 1 + 1) 39 (.agg #[.int .u64 x0, .int .u64 x1, .int .u64 x2, .int .u64 x3]) (.agg #[.int .u64 y0, .int .u64 y1, .int .u64 y2, .int .u64 y3])).run Tryd.prog w =
      .ok ((x0 == y0) && ((x1 == y1) && ((x2 == y2) && (x3 == y3)))) w := by
  obtain ⟨i0, hi, hz0, hz1, hz2⟩ := info_parts u64_info
  have hs : ∀ w, (sizeOf 37).run Tryd.prog w = .ok 1 w := fun w => by simp [sizeOf, typeInfo, hi, hz1]
  have he : ∀ (a b : Int) (w : World), (Op.equalIn (d + 1) 37 (.int .u64 a) (.int .u64 b)).run Tryd.prog w = .ok (a == b) w := fun a b w => run_equalIn_int w d _ .u64 .u64 a b Tryd.underlying37
  have hp : ∀ (a b c e : Value) (w : World), (part 37 #[a, b, c, e] 0).run Tryd.prog w = .ok a w ∧ (part 37 #[a, b, c, e] 1).run Tryd.prog w = .ok b w ∧ (part 37 #[a, b, c, e] 2).run Tryd.prog w = .ok c w ∧ (part 37 #[a, b, c, e] 3).run Tryd.prog w = .ok e w := fun a b c e w => ⟨by kernel_rfl, by kernel_rfl, by kernel_rfl, by kernel_rfl⟩
  rw [Op.equalIn]
  simp only [Sem.run_bind, run_underlying Tryd.underlying39, Result.andThen_ok, hs]
  rw [Std.Legacy.Range.forIn_eq_forIn_range']
  simp [Std.Legacy.Range.size, List.range', hp, he, Sem.run_bind, Sem.run_ite]
  cases h0 : (x0 == y0) <;> cases h1 : (x1 == y1) <;> cases h2 : (x2 == y2) <;> cases h3 : (x3 == y3) <;> simp_all
end Go.Proofs.YtoodpajbefffhaaDoor
/- The contract of named at graph (gen_named.py). -/
/- The contract of Class, given named's. -/
namespace Go.Proofs.YtoodpajbefffhaaDoor
open Go.RowKit

/-- Has it a byte? -/
def anyS (p : Nat → Bool) : Bool := !((((sw p 0 : Nat) : Int) == 0) && ((((sw p 1 : Nat) : Int) == 0) && ((((sw p 2 : Nat) : Int) == 0) && (((sw p 3 : Nat) : Int) == 0))))

set_option maxRecDepth 100000 in
set_option maxHeartbeats 8000000 in
theorem class_of (nm : ByteArray) (p : Nat → Bool) (hn : ∀ w, Calls Tryd.prog 92 #[.string nm] w fun e w' => e = .returned (SV p) ∧ Below w.heap.size w w') (w : World) :
    Calls Tryd.prog 88 #[.string nm] w fun e w' => e = .returned (.tuple #[SV p, .bool (anyS p)]) ∧ Below w.heap.size w w' := by
  have HN := Lib.hid hn
  clear hn
  obtain ⟨b, hb⟩ : ∃ b, b = anyS p := ⟨_, rfl⟩
  rw [← hb]
  have he : ∀ w, (Op.equalIn 10000 39 (.agg #[.int .u64 (sw p 0 : Nat), .int .u64 (sw p 1 : Nat), .int .u64 (sw p 2 : Nat), .int .u64 (sw p 3 : Nat)]) (.agg #[.int .u64 0, .int .u64 0, .int .u64 0, .int .u64 0])).run Tryd.prog w = .ok (!b) w := fun w => by
    rw [hb]
    unfold anyS
    rw [Bool.not_not]
    exact eq_arr 9998 _ _ _ _ _ _ _ _ w
  clear hb
  go_enter Tryd.func88, Tryd.ntmps88
  go_wp2_with fail
  refine (HN.out _).mono ?_
  rintro e w1 ⟨rfl, hb1⟩
  have HB := Lib.hid (hb1.mono (show w.heap.size + 1 ≤ (w.alloc (.cells #[.int .u64 0, .int .u64 0, .int .u64 0, .int .u64 0] 39)).heap.size by simp))
  clear hb1
  obtain ⟨c0, c1, c2, c3, g0, g1, g2, g3, hz⟩ := res_facts HB.out (Nat.lt_succ_self _)
  unfold SV
  go_wp2
  go_region
  all_goals
    go_wp2
    exact bodyPost_ret (by simp [results, Tryd.results88, go_sem, World.cell?_alloc_lt, hz, c0, c1, c2, c3]; rfl) rfl ⟨rfl, (((res_below HB.out _ _ _ _).alloc (by simp; exact Nat.le_of_lt hz) _).drew)⟩
end Go.Proofs.YtoodpajbefffhaaDoor
/- named at a text that is no class's name. -/
namespace Go.Proofs.YtoodpajbefffhaaDoor
open Go.RowKit

set_option maxRecDepth 100000 in
set_option maxHeartbeats 8000000 in
theorem named_other (nm : ByteArray) (n_alpha : (nm.toList == [97, 108, 112, 104, 97]) = false) (n_digit : (nm.toList == [100, 105, 103, 105, 116]) = false) (n_alnum : (nm.toList == [97, 108, 110, 117, 109]) = false) (n_upper : (nm.toList == [117, 112, 112, 101, 114]) = false) (n_lower : (nm.toList == [108, 111, 119, 101, 114]) = false) (n_space : (nm.toList == [115, 112, 97, 99, 101]) = false) (n_blank : (nm.toList == [98, 108, 97, 110, 107]) = false) (n_print : (nm.toList == [112, 114, 105, 110, 116]) = false) (n_graph : (nm.toList == [103, 114, 97, 112, 104]) = false) (n_punct : (nm.toList == [112, 117, 110, 99, 116]) = false) (n_cntrl : (nm.toList == [99, 110, 116, 114, 108]) = false) (n_xdigit : (nm.toList == [120, 100, 105, 103, 105, 116]) = false) (w : World) :
    Calls Tryd.prog 92 #[.string nm] w fun e w' => e = .returned (SV noP) ∧ Below w.heap.size w w' := by
  rw [SV_of (p := noP) (sw_zero 0).symm (sw_zero 1).symm (sw_zero 2).symm (sw_zero 3).symm]
  go_enter Tryd.func92, Tryd.ntmps92
  go_wp2
  exact bodyPost_ret (by simp [results, Tryd.results92, go_sem]) rfl ⟨rfl, ((Below.refl _ _).alloc (Nat.le_refl _) _).alloc (by simp) _⟩
end Go.Proofs.YtoodpajbefffhaaDoor
/- The contract of named at upper (gen_named.py). -/
namespace Go.Proofs.YtoodpajbefffhaaDoor
open Go.RowKit

/-- The class upper. -/
def cls_upper (c : Nat) : Bool := rng 65 90 c
set_option maxRecDepth 100000 in
set_option maxHeartbeats 8000000 in
theorem named_upper (w : World) :
    Calls Tryd.prog 92 #[.string ⟨#[117, 112, 112, 101, 114]⟩] w fun e w' => e = .returned (SV cls_upper) ∧ Below w.heap.size w w' := by
  have HX0 : ∀ w, Hid (Calls Tryd.prog 85 #[.int .u8 65, .int .u8 90] w fun e w' => e = .returned (SV (rng 65 90)) ∧ Below w.heap.size w w') := fun w => Lib.hid (range_any 65 90 (by omega) (by omega) w)
  go_enter Tryd.func92, Tryd.ntmps92
  go_wp2_with fail
  have HN0 : Hid (NS w _ noP) := Lib.hid (NS.start w)
  obtain ⟨V, hV⟩ : ∃ V, V = (w.alloc (.cells #[.int .u64 0, .int .u64 0, .int .u64 0, .int .u64 0] 39)).alloc (.cells #[.int .u64 0, .int .u64 0, .int .u64 0, .int .u64 0] 39) := ⟨_, rfl⟩
  rw [← hV] at HN0 ⊢
  clear hV
  obtain ⟨⟨r0, r1, r2, r3⟩, ⟨f0, f1, f2, f3⟩, ⟨c0, c1, c2, c3, g0, g1, g2, g3, z0⟩, z1⟩ := HN0.out.facts
  refine (HX0 _).out.mono ?_
  rintro e w01 ⟨rfl, hbw01⟩
  have HNw01 := Lib.hid (HN0.out.next hbw01)
  clear hbw01
  obtain ⟨⟨w01_r0, w01_r1, w01_r2, w01_r3⟩, ⟨w01_f0, w01_f1, w01_f2, w01_f3⟩, ⟨w01_c0, w01_c1, w01_c2, w01_c3, w01_g0, w01_g1, w01_g2, w01_g3, w01_z0⟩, w01_z1⟩ := HNw01.out.facts
  unfold SV
  go_wp2
  exact bodyPost_ret (by simp [results, Tryd.results92, go_sem, w01_c0, w01_c1, w01_c2, w01_c3]; rfl) rfl ⟨by first | rfl | exact congrArg Ending.returned (SV_congr fun c _ => by simp [cls_upper, orP, lessP, noP]), res_below HNw01.out.1 _ _ _ _⟩
end Go.Proofs.YtoodpajbefffhaaDoor
/- The contract of named at digit (gen_named.py). -/
namespace Go.Proofs.YtoodpajbefffhaaDoor
open Go.RowKit

/-- The class digit. -/
def cls_digit (c : Nat) : Bool := rng 48 57 c
set_option maxRecDepth 100000 in
set_option maxHeartbeats 8000000 in
theorem named_digit (w : World) :
    Calls Tryd.prog 92 #[.string ⟨#[100, 105, 103, 105, 116]⟩] w fun e w' => e = .returned (SV cls_digit) ∧ Below w.heap.size w w' := by
  have HX0 : ∀ w, Hid (Calls Tryd.prog 85 #[.int .u8 48, .int .u8 57] w fun e w' => e = .returned (SV (rng 48 57)) ∧ Below w.heap.size w w') := fun w => Lib.hid (range_any 48 57 (by omega) (by omega) w)
  go_enter Tryd.func92, Tryd.ntmps92
  go_wp2_with fail
  have HN0 : Hid (NS w _ noP) := Lib.hid (NS.start w)
  obtain ⟨V, hV⟩ : ∃ V, V = (w.alloc (.cells #[.int .u64 0, .int .u64 0, .int .u64 0, .int .u64 0] 39)).alloc (.cells #[.int .u64 0, .int .u64 0, .int .u64 0, .int .u64 0] 39) := ⟨_, rfl⟩
  rw [← hV] at HN0 ⊢
  clear hV
  obtain ⟨⟨r0, r1, r2, r3⟩, ⟨f0, f1, f2, f3⟩, ⟨c0, c1, c2, c3, g0, g1, g2, g3, z0⟩, z1⟩ := HN0.out.facts
  go_region_with (first
    | (go_at_call 85; refine (HX0 _).out.mono ?_; rintro e w01 ⟨rfl, hbw01⟩; have HNw01 := Lib.hid (HN0.out.drew.next hbw01); obtain ⟨⟨w01_r0, w01_r1, w01_r2, w01_r3⟩, ⟨w01_f0, w01_f1, w01_f2, w01_f3⟩, ⟨w01_c0, w01_c1, w01_c2, w01_c3, w01_g0, w01_g1, w01_g2, w01_g3, w01_z0⟩, w01_z1⟩ := HNw01.out.facts; unfold SV)
    | (go_at_call 78; refine (unionL _ noP (rng 48 57) _).mono ?_; rintro e w02 ⟨rfl, hbw02⟩; have HNw02 := Lib.hid (HNw01.out.next hbw02); obtain ⟨⟨w02_r0, w02_r1, w02_r2, w02_r3⟩, ⟨w02_f0, w02_f1, w02_f2, w02_f3⟩, ⟨w02_c0, w02_c1, w02_c2, w02_c3, w02_g0, w02_g1, w02_g2, w02_g3, w02_z0⟩, w02_z1⟩ := HNw02.out.facts; unfold SV))
  all_goals
    go_wp2
    exact bodyPost_ret (by simp [results, Tryd.results92, go_sem, w02_c0, w02_c1, w02_c2, w02_c3]; rfl) rfl ⟨by first | rfl | exact congrArg Ending.returned (SV_congr fun c _ => by simp [cls_digit, orP, lessP, noP]), res_below HNw02.out.1 _ _ _ _⟩
end Go.Proofs.YtoodpajbefffhaaDoor
/- The contract of named at alnum (gen_named.py). -/
namespace Go.Proofs.YtoodpajbefffhaaDoor
open Go.RowKit

/-- The class alnum. -/
def cls_alnum (c : Nat) : Bool := (rng 48 57 c || rng 65 90 c) || rng 97 122 c
set_option maxRecDepth 100000 in
set_option maxHeartbeats 8000000 in
theorem named_alnum (w : World) :
    Calls Tryd.prog 92 #[.string ⟨#[97, 108, 110, 117, 109]⟩] w fun e w' => e = .returned (SV cls_alnum) ∧ Below w.heap.size w w' := by
  have HX0 : ∀ w, Hid (Calls Tryd.prog 92 #[.string ⟨#[100, 105, 103, 105, 116]⟩] w fun e w' => e = .returned (SV cls_digit) ∧ Below w.heap.size w w') := fun w => Lib.hid (named_digit w)
  have HX1 : ∀ w, Hid (Calls Tryd.prog 92 #[.string ⟨#[117, 112, 112, 101, 114]⟩] w fun e w' => e = .returned (SV cls_upper) ∧ Below w.heap.size w w') := fun w => Lib.hid (named_upper w)
  have HX2 : ∀ w, Hid (Calls Tryd.prog 85 #[.int .u8 97, .int .u8 122] w fun e w' => e = .returned (SV (rng 97 122)) ∧ Below w.heap.size w w') := fun w => Lib.hid (range_any 97 122 (by omega) (by omega) w)
  go_enter Tryd.func92, Tryd.ntmps92
  go_wp2_with fail
  have HN0 : Hid (NS w _ noP) := Lib.hid (NS.start w)
  obtain ⟨V, hV⟩ : ∃ V, V = (w.alloc (.cells #[.int .u64 0, .int .u64 0, .int .u64 0, .int .u64 0] 39)).alloc (.cells #[.int .u64 0, .int .u64 0, .int .u64 0, .int .u64 0] 39) := ⟨_, rfl⟩
  rw [← hV] at HN0 ⊢
  clear hV
  obtain ⟨⟨r0, r1, r2, r3⟩, ⟨f0, f1, f2, f3⟩, ⟨c0, c1, c2, c3, g0, g1, g2, g3, z0⟩, z1⟩ := HN0.out.facts
  refine (HX0 _).out.mono ?_
  rintro e w01 ⟨rfl, hbw01⟩
  have HNw01 := Lib.hid (HN0.out.next hbw01)
  clear hbw01
  obtain ⟨⟨w01_r0, w01_r1, w01_r2, w01_r3⟩, ⟨w01_f0, w01_f1, w01_f2, w01_f3⟩, ⟨w01_c0, w01_c1, w01_c2, w01_c3, w01_g0, w01_g1, w01_g2, w01_g3, w01_z0⟩, w01_z1⟩ := HNw01.out.facts
  unfold SV
  go_wp2
  obtain ⟨V0, hV0⟩ : ∃ V, V = (((w01.setCell ⟨w.heap.size + 1, 0, none⟩ (.int .u64 (sw cls_digit 0 : Nat))).setCell ⟨w.heap.size + 1, 1, none⟩ (.int .u64 (sw cls_digit 1 : Nat))).setCell ⟨w.heap.size + 1, 2, none⟩ (.int .u64 (sw cls_digit 2 : Nat))).setCell ⟨w.heap.size + 1, 3, none⟩ (.int .u64 (sw cls_digit 3 : Nat)) := ⟨_, rfl⟩
  have HM0 := Lib.hid (HNw01.out.put cls_digit)
  rw [← hV0] at HM0
  rw [← hV0]
  clear hV0
  obtain ⟨⟨v0_r0, v0_r1, v0_r2, v0_r3⟩, ⟨v0_f0, v0_f1, v0_f2, v0_f3⟩, ⟨v0_c0, v0_c1, v0_c2, v0_c3, v0_g0, v0_g1, v0_g2, v0_g3, v0_z0⟩, v0_z1⟩ := HM0.out.facts
  go_region_with (first
    | (go_at_call 92; refine (HX1 _).out.mono ?_; rintro e w11 ⟨rfl, hbw11⟩; have HNw11 := Lib.hid (HM0.out.drew.next hbw11); obtain ⟨⟨w11_r0, w11_r1, w11_r2, w11_r3⟩, ⟨w11_f0, w11_f1, w11_f2, w11_f3⟩, ⟨w11_c0, w11_c1, w11_c2, w11_c3, w11_g0, w11_g1, w11_g2, w11_g3, w11_z0⟩, w11_z1⟩ := HNw11.out.facts; unfold SV)
    | (go_at_call 78; refine (unionL _ cls_digit cls_upper _).mono ?_; rintro e w12 ⟨rfl, hbw12⟩; have HNw12 := Lib.hid (HNw11.out.next hbw12); obtain ⟨⟨w12_r0, w12_r1, w12_r2, w12_r3⟩, ⟨w12_f0, w12_f1, w12_f2, w12_f3⟩, ⟨w12_c0, w12_c1, w12_c2, w12_c3, w12_g0, w12_g1, w12_g2, w12_g3, w12_z0⟩, w12_z1⟩ := HNw12.out.facts; unfold SV))
  all_goals
    obtain ⟨V1, hV1⟩ : ∃ V, V = (((w12.setCell ⟨w.heap.size + 1, 0, none⟩ (.int .u64 (sw (orP cls_digit cls_upper) 0 : Nat))).setCell ⟨w.heap.size + 1, 1, none⟩ (.int .u64 (sw (orP cls_digit cls_upper) 1 : Nat))).setCell ⟨w.heap.size + 1, 2, none⟩ (.int .u64 (sw (orP cls_digit cls_upper) 2 : Nat))).setCell ⟨w.heap.size + 1, 3, none⟩ (.int .u64 (sw (orP cls_digit cls_upper) 3 : Nat)) := ⟨_, rfl⟩
    have HM1 := Lib.hid (HNw12.out.put (orP cls_digit cls_upper))
    rw [← hV1] at HM1
    go_wp2
    rw [← hV1]
    clear hV1
    obtain ⟨⟨v1_r0, v1_r1, v1_r2, v1_r3⟩, ⟨v1_f0, v1_f1, v1_f2, v1_f3⟩, ⟨v1_c0, v1_c1, v1_c2, v1_c3, v1_g0, v1_g1, v1_g2, v1_g3, v1_z0⟩, v1_z1⟩ := HM1.out.facts
    go_region_with (first
      | (go_at_call 85; refine (HX2 _).out.mono ?_; rintro e w21 ⟨rfl, hbw21⟩; have HNw21 := Lib.hid (HM1.out.drew.next hbw21); obtain ⟨⟨w21_r0, w21_r1, w21_r2, w21_r3⟩, ⟨w21_f0, w21_f1, w21_f2, w21_f3⟩, ⟨w21_c0, w21_c1, w21_c2, w21_c3, w21_g0, w21_g1, w21_g2, w21_g3, w21_z0⟩, w21_z1⟩ := HNw21.out.facts; unfold SV)
      | (go_at_call 78; refine (unionL _ (orP cls_digit cls_upper) (rng 97 122) _).mono ?_; rintro e w22 ⟨rfl, hbw22⟩; have HNw22 := Lib.hid (HNw21.out.next hbw22); obtain ⟨⟨w22_r0, w22_r1, w22_r2, w22_r3⟩, ⟨w22_f0, w22_f1, w22_f2, w22_f3⟩, ⟨w22_c0, w22_c1, w22_c2, w22_c3, w22_g0, w22_g1, w22_g2, w22_g3, w22_z0⟩, w22_z1⟩ := HNw22.out.facts; unfold SV))
    all_goals
      go_wp2
      exact bodyPost_ret (by simp [results, Tryd.results92, go_sem, w22_c0, w22_c1, w22_c2, w22_c3]; rfl) rfl ⟨by first | rfl | exact congrArg Ending.returned (SV_congr fun c _ => by simp [cls_alnum, orP, lessP, noP]), res_below HNw22.out.1 _ _ _ _⟩
end Go.Proofs.YtoodpajbefffhaaDoor
/- The contract of named at lower (gen_named.py). -/
namespace Go.Proofs.YtoodpajbefffhaaDoor
open Go.RowKit

/-- The class lower. -/
def cls_lower (c : Nat) : Bool := rng 97 122 c
set_option maxRecDepth 100000 in
set_option maxHeartbeats 8000000 in
theorem named_lower (w : World) :
    Calls Tryd.prog 92 #[.string ⟨#[108, 111, 119, 101, 114]⟩] w fun e w' => e = .returned (SV cls_lower) ∧ Below w.heap.size w w' := by
  have HX0 : ∀ w, Hid (Calls Tryd.prog 85 #[.int .u8 97, .int .u8 122] w fun e w' => e = .returned (SV (rng 97 122)) ∧ Below w.heap.size w w') := fun w => Lib.hid (range_any 97 122 (by omega) (by omega) w)
  go_enter Tryd.func92, Tryd.ntmps92
  go_wp2_with fail
  have HN0 : Hid (NS w _ noP) := Lib.hid (NS.start w)
  obtain ⟨V, hV⟩ : ∃ V, V = (w.alloc (.cells #[.int .u64 0, .int .u64 0, .int .u64 0, .int .u64 0] 39)).alloc (.cells #[.int .u64 0, .int .u64 0, .int .u64 0, .int .u64 0] 39) := ⟨_, rfl⟩
  rw [← hV] at HN0 ⊢
  clear hV
  obtain ⟨⟨r0, r1, r2, r3⟩, ⟨f0, f1, f2, f3⟩, ⟨c0, c1, c2, c3, g0, g1, g2, g3, z0⟩, z1⟩ := HN0.out.facts
  go_region_with (first
    | (go_at_call 85; refine (HX0 _).out.mono ?_; rintro e w01 ⟨rfl, hbw01⟩; have HNw01 := Lib.hid (HN0.out.drew.next hbw01); obtain ⟨⟨w01_r0, w01_r1, w01_r2, w01_r3⟩, ⟨w01_f0, w01_f1, w01_f2, w01_f3⟩, ⟨w01_c0, w01_c1, w01_c2, w01_c3, w01_g0, w01_g1, w01_g2, w01_g3, w01_z0⟩, w01_z1⟩ := HNw01.out.facts; unfold SV)
    | (go_at_call 78; refine (unionL _ noP (rng 97 122) _).mono ?_; rintro e w02 ⟨rfl, hbw02⟩; have HNw02 := Lib.hid (HNw01.out.next hbw02); obtain ⟨⟨w02_r0, w02_r1, w02_r2, w02_r3⟩, ⟨w02_f0, w02_f1, w02_f2, w02_f3⟩, ⟨w02_c0, w02_c1, w02_c2, w02_c3, w02_g0, w02_g1, w02_g2, w02_g3, w02_z0⟩, w02_z1⟩ := HNw02.out.facts; unfold SV))
  all_goals
    go_wp2
    exact bodyPost_ret (by simp [results, Tryd.results92, go_sem, w02_c0, w02_c1, w02_c2, w02_c3]; rfl) rfl ⟨by first | rfl | exact congrArg Ending.returned (SV_congr fun c _ => by simp [cls_lower, orP, lessP, noP]), res_below HNw02.out.1 _ _ _ _⟩
end Go.Proofs.YtoodpajbefffhaaDoor
/- The contract of named at space (gen_named.py). -/
namespace Go.Proofs.YtoodpajbefffhaaDoor
open Go.RowKit

/-- The class space. -/
def cls_space (c : Nat) : Bool := rng 10 13 c || mem [32, 9] c
set_option maxRecDepth 100000 in
set_option maxHeartbeats 8000000 in
theorem named_space (w : World) :
    Calls Tryd.prog 92 #[.string ⟨#[115, 112, 97, 99, 101]⟩] w fun e w' => e = .returned (SV cls_space) ∧ Below w.heap.size w w' := by
  have HX0 : ∀ w, Hid (Calls Tryd.prog 85 #[.int .u8 10, .int .u8 13] w fun e w' => e = .returned (SV (rng 10 13)) ∧ Below w.heap.size w w') := fun w => Lib.hid (range_any 10 13 (by omega) (by omega) w)
  have HX1 : ∀ w, Hid (Calls Tryd.prog 28 #[.string ⟨#[32, 9]⟩] w fun e w' => e = .returned (SV (mem [32, 9])) ∧ Below w.heap.size w w') := fun w => Lib.hid (of_any ⟨#[32, 9]⟩ w (by decide))
  go_enter Tryd.func92, Tryd.ntmps92
  go_wp2_with fail
  have HN0 : Hid (NS w _ noP) := Lib.hid (NS.start w)
  obtain ⟨V, hV⟩ : ∃ V, V = (w.alloc (.cells #[.int .u64 0, .int .u64 0, .int .u64 0, .int .u64 0] 39)).alloc (.cells #[.int .u64 0, .int .u64 0, .int .u64 0, .int .u64 0] 39) := ⟨_, rfl⟩
  rw [← hV] at HN0 ⊢
  clear hV
  obtain ⟨⟨r0, r1, r2, r3⟩, ⟨f0, f1, f2, f3⟩, ⟨c0, c1, c2, c3, g0, g1, g2, g3, z0⟩, z1⟩ := HN0.out.facts
  refine (HX0 _).out.mono ?_
  rintro e w01 ⟨rfl, hbw01⟩
  have HNw01 := Lib.hid (HN0.out.next hbw01)
  clear hbw01
  obtain ⟨⟨w01_r0, w01_r1, w01_r2, w01_r3⟩, ⟨w01_f0, w01_f1, w01_f2, w01_f3⟩, ⟨w01_c0, w01_c1, w01_c2, w01_c3, w01_g0, w01_g1, w01_g2, w01_g3, w01_z0⟩, w01_z1⟩ := HNw01.out.facts
  unfold SV
  go_wp2
  obtain ⟨V0, hV0⟩ : ∃ V, V = (((w01.setCell ⟨w.heap.size + 1, 0, none⟩ (.int .u64 (sw (rng 10 13) 0 : Nat))).setCell ⟨w.heap.size + 1, 1, none⟩ (.int .u64 (sw (rng 10 13) 1 : Nat))).setCell ⟨w.heap.size + 1, 2, none⟩ (.int .u64 (sw (rng 10 13) 2 : Nat))).setCell ⟨w.heap.size + 1, 3, none⟩ (.int .u64 (sw (rng 10 13) 3 : Nat)) := ⟨_, rfl⟩
  have HM0 := Lib.hid (HNw01.out.put (rng 10 13))
  rw [← hV0] at HM0
  rw [← hV0]
  clear hV0
  obtain ⟨⟨v0_r0, v0_r1, v0_r2, v0_r3⟩, ⟨v0_f0, v0_f1, v0_f2, v0_f3⟩, ⟨v0_c0, v0_c1, v0_c2, v0_c3, v0_g0, v0_g1, v0_g2, v0_g3, v0_z0⟩, v0_z1⟩ := HM0.out.facts
  go_region_with (first
    | (go_at_call 28; refine (HX1 _).out.mono ?_; rintro e w11 ⟨rfl, hbw11⟩; have HNw11 := Lib.hid (HM0.out.drew.next hbw11); obtain ⟨⟨w11_r0, w11_r1, w11_r2, w11_r3⟩, ⟨w11_f0, w11_f1, w11_f2, w11_f3⟩, ⟨w11_c0, w11_c1, w11_c2, w11_c3, w11_g0, w11_g1, w11_g2, w11_g3, w11_z0⟩, w11_z1⟩ := HNw11.out.facts; unfold SV)
    | (go_at_call 78; refine (unionL _ (rng 10 13) (mem [32, 9]) _).mono ?_; rintro e w12 ⟨rfl, hbw12⟩; have HNw12 := Lib.hid (HNw11.out.next hbw12); obtain ⟨⟨w12_r0, w12_r1, w12_r2, w12_r3⟩, ⟨w12_f0, w12_f1, w12_f2, w12_f3⟩, ⟨w12_c0, w12_c1, w12_c2, w12_c3, w12_g0, w12_g1, w12_g2, w12_g3, w12_z0⟩, w12_z1⟩ := HNw12.out.facts; unfold SV))
  all_goals
    go_wp2
    exact bodyPost_ret (by simp [results, Tryd.results92, go_sem, w12_c0, w12_c1, w12_c2, w12_c3]; rfl) rfl ⟨by first | rfl | exact congrArg Ending.returned (SV_congr fun c _ => by simp [cls_space, orP, lessP, noP]), res_below HNw12.out.1 _ _ _ _⟩
end Go.Proofs.YtoodpajbefffhaaDoor
namespace Go.Proofs.YtoodpajbefffhaaDoor
open Go.RowKit

/-- The class graph. -/
def cls_graph (c : Nat) : Bool := rng 33 126 c
set_option maxRecDepth 100000 in
set_option maxHeartbeats 8000000 in
theorem named_graph (w : World) :
    Calls Tryd.prog 92 #[.string ⟨#[103, 114, 97, 112, 104]⟩] w fun e w' => e = .returned (SV cls_graph) ∧ Below w.heap.size w w' := by
  have HX0 : ∀ w, Hid (Calls Tryd.prog 85 #[.int .u8 33, .int .u8 126] w fun e w' => e = .returned (SV (rng 33 126)) ∧ Below w.heap.size w w') := fun w => Lib.hid (range_any 33 126 (by omega) (by omega) w)
  go_enter Tryd.func92, Tryd.ntmps92
  go_wp2_with fail
  have HN0 : Hid (NS w _ noP) := Lib.hid (NS.start w)
  obtain ⟨V, hV⟩ : ∃ V, V = (w.alloc (.cells #[.int .u64 0, .int .u64 0, .int .u64 0, .int .u64 0] 39)).alloc (.cells #[.int .u64 0, .int .u64 0, .int .u64 0, .int .u64 0] 39) := ⟨_, rfl⟩
  rw [← hV] at HN0 ⊢
  clear hV
  obtain ⟨⟨r0, r1, r2, r3⟩, ⟨f0, f1, f2, f3⟩, ⟨c0, c1, c2, c3, g0, g1, g2, g3, z0⟩, z1⟩ := HN0.out.facts
  go_region_with (first
    | (go_at_call 85; refine (HX0 _).out.mono ?_; rintro e w01 ⟨rfl, hbw01⟩; have HNw01 := Lib.hid (HN0.out.drew.next hbw01); obtain ⟨⟨w01_r0, w01_r1, w01_r2, w01_r3⟩, ⟨w01_f0, w01_f1, w01_f2, w01_f3⟩, ⟨w01_c0, w01_c1, w01_c2, w01_c3, w01_g0, w01_g1, w01_g2, w01_g3, w01_z0⟩, w01_z1⟩ := HNw01.out.facts; unfold SV)
    | (go_at_call 78; refine (unionL _ noP (rng 33 126) _).mono ?_; rintro e w02 ⟨rfl, hbw02⟩; have HNw02 := Lib.hid (HNw01.out.next hbw02); obtain ⟨⟨w02_r0, w02_r1, w02_r2, w02_r3⟩, ⟨w02_f0, w02_f1, w02_f2, w02_f3⟩, ⟨w02_c0, w02_c1, w02_c2, w02_c3, w02_g0, w02_g1, w02_g2, w02_g3, w02_z0⟩, w02_z1⟩ := HNw02.out.facts; unfold SV))
  all_goals
    go_wp2
    exact bodyPost_ret (by simp [results, Tryd.results92, go_sem, w02_c0, w02_c1, w02_c2, w02_c3]; rfl) rfl ⟨by first | rfl | exact congrArg Ending.returned (SV_congr fun c _ => by simp [cls_graph, orP, lessP, noP]), res_below HNw02.out.1 _ _ _ _⟩
end Go.Proofs.YtoodpajbefffhaaDoor
/- What is common to the reference's classes (gen_refclass.py). -/
namespace Go.Proofs.YtoodpajbefffhaaDoor
open Go.RowKit

theorem alloc_last4 (w : World) (o : Obj) : (w.alloc o).heap[w.heap.size]? = some o := by
  show (w.heap.push _)[w.heap.size]? = _
  simp
theorem blk4 {w : World} {g : Nat} {t : TypeId} {a0 a1 a2 a3 : Value} (h : w.heap[g]? = some (.cells #[a0, a1, a2, a3] t)) :
    (w.cell? ⟨g, 0, none⟩ = some a0 ∧ w.cell? ⟨g, 1, none⟩ = some a1 ∧ w.cell? ⟨g, 2, none⟩ = some a2 ∧ w.cell? ⟨g, 3, none⟩ = some a3) ∧ True :=
  ⟨⟨by simp [World.cell?, h], by simp [World.cell?, h], by simp [World.cell?, h], by simp [World.cell?, h]⟩, trivial⟩
/-- The same by whole blocks (the first one too, as it was made), and the sum's block g. -/
def RB (w : World) (b : Nat) (X : World) : Prop := Below w.heap.size w X ∧ w.heap.size + 1 ≤ b ∧ X.heap[b]? = some (.cells #[.int .u64 (sw (rng 97 122) 0 : Nat), .int .u64 (sw (rng 97 122) 1 : Nat), .int .u64 (sw (rng 97 122) 2 : Nat), .int .u64 (sw (rng 97 122) 3 : Nat)] 39) ∧ X.heap[b + 1]? = some (.cells #[.int .u64 (sw (rng 65 90) 0 : Nat), .int .u64 (sw (rng 65 90) 1 : Nat), .int .u64 (sw (rng 65 90) 2 : Nat), .int .u64 (sw (rng 65 90) 3 : Nat)] 39) ∧ X.heap[b + 1 + 1]? = some (.cells #[.int .u64 (sw (rng 48 57) 0 : Nat), .int .u64 (sw (rng 48 57) 1 : Nat), .int .u64 (sw (rng 48 57) 2 : Nat), .int .u64 (sw (rng 48 57) 3 : Nat)] 39) ∧ X.heap[b + 1 + 1 + 1]? = some (.cells #[.int .u64 (sw (rng 33 126) 0 : Nat), .int .u64 (sw (rng 33 126) 1 : Nat), .int .u64 (sw (rng 33 126) 2 : Nat), .int .u64 (sw (rng 33 126) 3 : Nat)] 39)
theorem lt_blk {w : World} {g : Nat} {o : Obj} (h : w.heap[g]? = some o) : g < w.heap.size := by
  rcases Nat.lt_or_ge g w.heap.size with h' | h'
  · exact h'
  · rw [Array.getElem?_eq_none h'] at h; cases h
theorem RB.nxt {w w1 w2 : World} {b : Nat} (h : RB w b w1) (hb : Below w1.heap.size w1 w2) : RB w b w2 := by
  obtain ⟨h0, hs, h1, h2, h3, h4⟩ := h
  exact ⟨below_thn h0 (Nat.le_refl _) hb, hs, (hb.block _ (lt_blk h1)).trans h1, (hb.block _ (lt_blk h2)).trans h2, (hb.block _ (lt_blk h3)).trans h3, (hb.block _ (lt_blk h4)).trans h4⟩
theorem bsz {w w1 : World} {o : Obj} (h : Below (w.heap.size + 1) (w.alloc o) w1) : w.heap.size + 1 ≤ w1.heap.size := by have := h.size; simp at this; exact this
theorem blk4f {w : World} {g : Nat} {t : TypeId} {a0 a1 a2 a3 : Value} (h : w.heap[g]? = some (.cells #[a0, a1, a2, a3] t)) :
    (w.cell? ⟨g, 0, none⟩ = some a0 ∧ w.cell? ⟨g, 1, none⟩ = some a1 ∧ w.cell? ⟨g, 2, none⟩ = some a2 ∧ w.cell? ⟨g, 3, none⟩ = some a3) ∧
    (w.frozen? ⟨g, 0, none⟩ = false ∧ w.frozen? ⟨g, 1, none⟩ = false ∧ w.frozen? ⟨g, 2, none⟩ = false ∧ w.frozen? ⟨g, 3, none⟩ = false) ∧ g < w.heap.size :=
  ⟨⟨by simp [World.cell?, h], by simp [World.cell?, h], by simp [World.cell?, h], by simp [World.cell?, h]⟩, ⟨by simp [World.frozen?, h], by simp [World.frozen?, h], by simp [World.frozen?, h], by simp [World.frozen?, h]⟩, lt_blk h⟩
theorem item_no' : ((sw noP 0 : Nat) : Int) = 0 ∧ ((sw noP 1 : Nat) : Int) = 0 ∧ ((sw noP 2 : Nat) : Int) = 0 ∧ ((sw noP 3 : Nat) : Int) = 0 := ⟨sw_zero 0, sw_zero 1, sw_zero 2, sw_zero 3⟩
theorem row_no {w : World} {g : Nat} (h0 : w.cell? ⟨g, 0, none⟩ = some (.int .u64 0)) (h1 : w.cell? ⟨g, 1, none⟩ = some (.int .u64 0)) (h2 : w.cell? ⟨g, 2, none⟩ = some (.int .u64 0)) (h3 : w.cell? ⟨g, 3, none⟩ = some (.int .u64 0)) : Row4 w g 0 noP :=
  ⟨by rw [item_no'.1]; exact h0, by rw [item_no'.2.1]; exact h1, by rw [item_no'.2.2.1]; exact h2, by rw [item_no'.2.2.2]; exact h3⟩
theorem RB.set {w w1 : World} {b : Nat} (h : RB w b w1) (g i : Nat) (v : Value) (hg : g = w.heap.size ∨ b + 1 + 1 + 1 < g) : RB w b (w1.setCell ⟨g, i, none⟩ v) := by
  obtain ⟨h0, hs, h1, h2, h3, h4⟩ := h
  have k : ∀ j, j ≠ g → (w1.setCell ⟨g, i, none⟩ v).heap[j]? = w1.heap[j]? := fun j hj => Below.heap_setCell _ _ _ _ (by simp; omega)
  exact ⟨h0.setCell (by simp; omega) _, hs, (k _ (by omega)).trans h1, (k _ (by omega)).trans h2, (k _ (by omega)).trans h3, (k _ (by omega)).trans h4⟩
theorem heap_at (w : World) (o : Obj) (i : Nat) (h : i < w.heap.size) : (w.alloc o).heap[i]? = w.heap[i]? := Below.heap_alloc _ _ _ h
theorem RB.start (w w4 : World) (hb : Below (w.heap.size + 1) (w.alloc (.cells #[.int .u64 0, .int .u64 0, .int .u64 0, .int .u64 0] 39)) w4) :
    RB w w4.heap.size ((((w4.alloc (.cells #[.int .u64 (sw (rng 97 122) 0 : Nat), .int .u64 (sw (rng 97 122) 1 : Nat), .int .u64 (sw (rng 97 122) 2 : Nat), .int .u64 (sw (rng 97 122) 3 : Nat)] 39)).alloc (.cells #[.int .u64 (sw (rng 65 90) 0 : Nat), .int .u64 (sw (rng 65 90) 1 : Nat), .int .u64 (sw (rng 65 90) 2 : Nat), .int .u64 (sw (rng 65 90) 3 : Nat)] 39)).alloc (.cells #[.int .u64 (sw (rng 48 57) 0 : Nat), .int .u64 (sw (rng 48 57) 1 : Nat), .int .u64 (sw (rng 48 57) 2 : Nat), .int .u64 (sw (rng 48 57) 3 : Nat)] 39)).alloc (.cells #[.int .u64 (sw (rng 33 126) 0 : Nat), .int .u64 (sw (rng 33 126) 1 : Nat), .int .u64 (sw (rng 33 126) 2 : Nat), .int .u64 (sw (rng 33 126) 3 : Nat)] 39)) := by
  have hs : w.heap.size + 1 ≤ w4.heap.size := by have := hb.size; simp at this; exact this
  have h4 : Below w.heap.size w w4 := ((Below.refl _ _).alloc (Nat.le_refl _) _).trans (hb.mono (Nat.le_succ _))
  refine ⟨(((h4.alloc (by first | exact h4.size | (simp; done) | (simp; omega)) _).alloc (by simp; omega) _).alloc (by simp; omega) _).alloc (by simp; omega) _, hs, ?_, ?_, ?_, ?_⟩
  · rw [heap_at _ _ _ (by first | (simp; done) | (simp; omega)), heap_at _ _ _ (by first | (simp; done) | (simp; omega)), heap_at _ _ _ (by simp)]; exact alloc_last4 _ _
  · rw [heap_at _ _ _ (by first | (simp; done) | (simp; omega)), heap_at _ _ _ (by simp)]; have := alloc_last4 (w4.alloc (.cells #[.int .u64 (sw (rng 97 122) 0 : Nat), .int .u64 (sw (rng 97 122) 1 : Nat), .int .u64 (sw (rng 97 122) 2 : Nat), .int .u64 (sw (rng 97 122) 3 : Nat)] 39)) (.cells #[.int .u64 (sw (rng 65 90) 0 : Nat), .int .u64 (sw (rng 65 90) 1 : Nat), .int .u64 (sw (rng 65 90) 2 : Nat), .int .u64 (sw (rng 65 90) 3 : Nat)] 39); simpa using this
  · rw [heap_at _ _ _ (by simp)]; have := alloc_last4 ((w4.alloc (.cells #[.int .u64 (sw (rng 97 122) 0 : Nat), .int .u64 (sw (rng 97 122) 1 : Nat), .int .u64 (sw (rng 97 122) 2 : Nat), .int .u64 (sw (rng 97 122) 3 : Nat)] 39)).alloc (.cells #[.int .u64 (sw (rng 65 90) 0 : Nat), .int .u64 (sw (rng 65 90) 1 : Nat), .int .u64 (sw (rng 65 90) 2 : Nat), .int .u64 (sw (rng 65 90) 3 : Nat)] 39)) (.cells #[.int .u64 (sw (rng 48 57) 0 : Nat), .int .u64 (sw (rng 48 57) 1 : Nat), .int .u64 (sw (rng 48 57) 2 : Nat), .int .u64 (sw (rng 48 57) 3 : Nat)] 39); simpa using this
  · have := alloc_last4 (((w4.alloc (.cells #[.int .u64 (sw (rng 97 122) 0 : Nat), .int .u64 (sw (rng 97 122) 1 : Nat), .int .u64 (sw (rng 97 122) 2 : Nat), .int .u64 (sw (rng 97 122) 3 : Nat)] 39)).alloc (.cells #[.int .u64 (sw (rng 65 90) 0 : Nat), .int .u64 (sw (rng 65 90) 1 : Nat), .int .u64 (sw (rng 65 90) 2 : Nat), .int .u64 (sw (rng 65 90) 3 : Nat)] 39)).alloc (.cells #[.int .u64 (sw (rng 48 57) 0 : Nat), .int .u64 (sw (rng 48 57) 1 : Nat), .int .u64 (sw (rng 48 57) 2 : Nat), .int .u64 (sw (rng 48 57) 3 : Nat)] 39)) (.cells #[.int .u64 (sw (rng 33 126) 0 : Nat), .int .u64 (sw (rng 33 126) 1 : Nat), .int .u64 (sw (rng 33 126) 2 : Nat), .int .u64 (sw (rng 33 126) 3 : Nat)] 39); simpa using this
end Go.Proofs.YtoodpajbefffhaaDoor
/- The reference's Class at upper, lower, graph, digit, in one text. -/
namespace Go.Proofs.YtoodpajbefffhaaDoor
open Go.RowKit

set_option maxRecDepth 100000 in
set_option maxHeartbeats 16000000 in
theorem rclass_upper (w : World) :
    Calls Tryd.prog 38 #[.string ⟨#[117, 112, 112, 101, 114]⟩] w fun e w' => e = .returned (.tuple #[SV (rng 65 90), .bool true]) ∧ Below w.heap.size w w' := by
  have X1 : ∀ w, Hid (Calls Tryd.prog 26 #[.int .u8 97, .int .u8 122] w fun e w' => e = .returned (SV (rng 97 122)) ∧ Below w.heap.size w w') := fun w => Lib.hid (rrange_any 97 122 (by omega) (by omega) w)
  have X2 : ∀ w, Hid (Calls Tryd.prog 26 #[.int .u8 65, .int .u8 90] w fun e w' => e = .returned (SV (rng 65 90)) ∧ Below w.heap.size w w') := fun w => Lib.hid (rrange_any 65 90 (by omega) (by omega) w)
  have X3 : ∀ w, Hid (Calls Tryd.prog 26 #[.int .u8 48, .int .u8 57] w fun e w' => e = .returned (SV (rng 48 57)) ∧ Below w.heap.size w w') := fun w => Lib.hid (rrange_any 48 57 (by omega) (by omega) w)
  have X4 : ∀ w, Hid (Calls Tryd.prog 26 #[.int .u8 33, .int .u8 126] w fun e w' => e = .returned (SV (rng 33 126)) ∧ Below w.heap.size w w') := fun w => Lib.hid (rrange_any 33 126 (by omega) (by omega) w)
  have Y1 : ∀ w, Hid (Calls Tryd.prog 25 #[.agg #[.int .u64 (sw (rng 97 122) 0 : Nat), .int .u64 (sw (rng 97 122) 1 : Nat), .int .u64 (sw (rng 97 122) 2 : Nat), .int .u64 (sw (rng 97 122) 3 : Nat)], .agg #[.int .u64 (sw (rng 65 90) 0 : Nat), .int .u64 (sw (rng 65 90) 1 : Nat), .int .u64 (sw (rng 65 90) 2 : Nat), .int .u64 (sw (rng 65 90) 3 : Nat)]] w fun e w' => e = .returned (SV (orP (rng 97 122) (rng 65 90))) ∧ Below w.heap.size w w') := fun w => Lib.hid (ror_any (rng 97 122) (rng 65 90) w)
  have Y2 : ∀ w, Hid (Calls Tryd.prog 25 #[.agg #[.int .u64 (sw (orP (rng 97 122) (rng 65 90)) 0 : Nat), .int .u64 (sw (orP (rng 97 122) (rng 65 90)) 1 : Nat), .int .u64 (sw (orP (rng 97 122) (rng 65 90)) 2 : Nat), .int .u64 (sw (orP (rng 97 122) (rng 65 90)) 3 : Nat)], .agg #[.int .u64 (sw (rng 48 57) 0 : Nat), .int .u64 (sw (rng 48 57) 1 : Nat), .int .u64 (sw (rng 48 57) 2 : Nat), .int .u64 (sw (rng 48 57) 3 : Nat)]] w fun e w' => e = .returned (SV (orP (orP (rng 97 122) (rng 65 90)) (rng 48 57))) ∧ Below w.heap.size w w') := fun w => Lib.hid (ror_any (orP (rng 97 122) (rng 65 90)) (rng 48 57) w)
  go_enter Tryd.func38, Tryd.ntmps38
  go_wp2_with fail
  have HB0 : Hid (Below (w.heap.size + 1) (w.alloc (.cells #[.int .u64 0, .int .u64 0, .int .u64 0, .int .u64 0] 39)) (w.alloc (.cells #[.int .u64 0, .int .u64 0, .int .u64 0, .int .u64 0] 39))) := Lib.hid (Below.refl _ _)
  refine (X1 _).out.mono ?_
  rintro e w1 ⟨rfl, hb1⟩
  have HB1 := Lib.hid (HB0.out.trans (hb1.mono (bsz HB0.out)))
  clear hb1
  go_wp2_with fail
  refine (X2 _).out.mono ?_
  rintro e w2 ⟨rfl, hb2⟩
  have HB2 := Lib.hid (HB1.out.trans (hb2.mono (bsz HB1.out)))
  clear hb2
  go_wp2_with fail
  refine (X3 _).out.mono ?_
  rintro e w3 ⟨rfl, hb3⟩
  have HB3 := Lib.hid (HB2.out.trans (hb3.mono (bsz HB2.out)))
  clear hb3
  go_wp2_with fail
  refine (X4 _).out.mono ?_
  rintro e w4 ⟨rfl, hb4⟩
  have HB4 := Lib.hid (HB3.out.trans (hb4.mono (bsz HB3.out)))
  clear hb4
  unfold SV
  go_wp2_with fail
  have HKS := RB.start w w4 HB4.out
  have HBW := Lib.hid ((((HB4.out.alloc (bsz HB4.out) (.cells #[.int .u64 (sw (rng 97 122) 0 : Nat), .int .u64 (sw (rng 97 122) 1 : Nat), .int .u64 (sw (rng 97 122) 2 : Nat), .int .u64 (sw (rng 97 122) 3 : Nat)] 39)).alloc (by have := HB4.out.size; simp at this; simp; omega) (.cells #[.int .u64 (sw (rng 65 90) 0 : Nat), .int .u64 (sw (rng 65 90) 1 : Nat), .int .u64 (sw (rng 65 90) 2 : Nat), .int .u64 (sw (rng 65 90) 3 : Nat)] 39)).alloc (by have := HB4.out.size; simp at this; simp; omega) (.cells #[.int .u64 (sw (rng 48 57) 0 : Nat), .int .u64 (sw (rng 48 57) 1 : Nat), .int .u64 (sw (rng 48 57) 2 : Nat), .int .u64 (sw (rng 48 57) 3 : Nat)] 39)).alloc (by have := HB4.out.size; simp at this; simp; omega) (.cells #[.int .u64 (sw (rng 33 126) 0 : Nat), .int .u64 (sw (rng 33 126) 1 : Nat), .int .u64 (sw (rng 33 126) 2 : Nat), .int .u64 (sw (rng 33 126) 3 : Nat)] 39))
  obtain ⟨V, hV⟩ : ∃ V, V = (((w4.alloc (.cells #[.int .u64 (sw (rng 97 122) 0 : Nat), .int .u64 (sw (rng 97 122) 1 : Nat), .int .u64 (sw (rng 97 122) 2 : Nat), .int .u64 (sw (rng 97 122) 3 : Nat)] 39)).alloc (.cells #[.int .u64 (sw (rng 65 90) 0 : Nat), .int .u64 (sw (rng 65 90) 1 : Nat), .int .u64 (sw (rng 65 90) 2 : Nat), .int .u64 (sw (rng 65 90) 3 : Nat)] 39)).alloc (.cells #[.int .u64 (sw (rng 48 57) 0 : Nat), .int .u64 (sw (rng 48 57) 1 : Nat), .int .u64 (sw (rng 48 57) 2 : Nat), .int .u64 (sw (rng 48 57) 3 : Nat)] 39)).alloc (.cells #[.int .u64 (sw (rng 33 126) 0 : Nat), .int .u64 (sw (rng 33 126) 1 : Nat), .int .u64 (sw (rng 33 126) 2 : Nat), .int .u64 (sw (rng 33 126) 3 : Nat)] 39) := ⟨_, rfl⟩
  rw [← hV] at HKS HBW ⊢
  clear hV
  have HY0 : Hid (RB w w4.heap.size V.drew) := Lib.hid (HKS.nxt (Below.refl _ _).drew)
  have HBV : Hid (Below (w.heap.size + 1) (w.alloc (.cells #[.int .u64 0, .int .u64 0, .int .u64 0, .int .u64 0] 39)) V.drew) := Lib.hid HBW.out.drew
  clear HKS HBW
  refine wp_region_held (S := fun X => RB w w4.heap.size X) (by kernel_rfl) ?_
  try (change wpAnyH _ _ _ _ _ _ _ _ (World.drew _))
  generalize V.drew = X0 at *
  refine wpAnyH_take (i := 0) (v := .agg #[.int .u64 (sw (rng 97 122) 0 : Nat), .int .u64 (sw (rng 97 122) 1 : Nat), .int .u64 (sw (rng 97 122) 2 : Nat), .int .u64 (sw (rng 97 122) 3 : Nat)]) rfl (by kernel_rfl) (by kernel_rfl) (by kernel_rfl) (fun _ _ _ h => h) (Or.inl ⟨by kernel_rfl, ?_⟩) HY0.out ?_
  · intro X hS; obtain ⟨_, _, hS3, hS4, hS5, hS6⟩ := hS; obtain ⟨⟨z0, z1, z2, z3⟩, _⟩ := blk4 hS3; clear hS3 hS4 hS5 hS6; go_simp
  try simp only [Act.put, List.setIfInBounds_toArray]
  refine wpAnyH_take (i := 1) (v := .agg #[.int .u64 (sw (rng 65 90) 0 : Nat), .int .u64 (sw (rng 65 90) 1 : Nat), .int .u64 (sw (rng 65 90) 2 : Nat), .int .u64 (sw (rng 65 90) 3 : Nat)]) rfl (by kernel_rfl) (by kernel_rfl) (by kernel_rfl) (fun _ _ _ h => h) (Or.inl ⟨by kernel_rfl, ?_⟩) HY0.out ?_
  · intro X hS; obtain ⟨_, _, hS3, hS4, hS5, hS6⟩ := hS; obtain ⟨⟨z0, z1, z2, z3⟩, _⟩ := blk4 hS4; clear hS3 hS4 hS5 hS6; go_simp
  try simp only [Act.put]
  refine wpAnyH_take (i := 3) (v := .agg #[.int .u64 (sw (rng 48 57) 0 : Nat), .int .u64 (sw (rng 48 57) 1 : Nat), .int .u64 (sw (rng 48 57) 2 : Nat), .int .u64 (sw (rng 48 57) 3 : Nat)]) rfl (by kernel_rfl) (by kernel_rfl) (by kernel_rfl) (fun _ _ _ h => h) (Or.inl ⟨by kernel_rfl, ?_⟩) HY0.out ?_
  · intro X hS; obtain ⟨_, _, hS3, hS4, hS5, hS6⟩ := hS; obtain ⟨⟨z0, z1, z2, z3⟩, _⟩ := blk4 hS5; clear hS3 hS4 hS5 hS6; go_simp
  try simp only [Act.put]
  have HYX0 := HY0
  have HBX0 := HBV
  refine wpAnyH_all (rs := [2, 5]) (by kernel_rfl) (by simp) ?_
  intro ii hii
  simp only [List.mem_cons, List.not_mem_nil, or_false] at hii
  rcases hii with rfl | rfl
  · skip
    refine wpOp_step (by rfl) ?_
    intro K' hK'
    go_simp
    go_at_call 25
    refine (Y1 _).out.mono ?_
    rintro e A1 ⟨rfl, hbc⟩
    have HYA1 := Lib.hid (HYX0.out.nxt hbc)
    have HBA1 := Lib.hid (HBX0.out.trans (hbc.mono (bsz HBX0.out)))
    clear hbc
    unfold SV
    refine hK' _ _ ⟨HYA1.out, ?_⟩
    clear hK'
    refine wpAnyH_all (rs := [4, 5]) (by kernel_rfl) (by simp) ?_
    intro ii hii
    simp only [List.mem_cons, List.not_mem_nil, or_false] at hii
    rcases hii with rfl | rfl
    · skip
      refine wpOp_step (by rfl) ?_
      intro K' hK'
      go_simp
      go_at_call 25
      refine (Y2 _).out.mono ?_
      rintro e A2 ⟨rfl, hbc⟩
      have HYA2 := Lib.hid (HYA1.out.nxt hbc)
      have HBA2 := Lib.hid (HBA1.out.trans (hbc.mono (bsz HBA1.out)))
      clear hbc
      unfold SV
      refine hK' _ _ ⟨HYA2.out, ?_⟩
      clear hK'
      refine wpAnyH_all (rs := [5]) (by kernel_rfl) (by simp) ?_
      intro ii hii
      rw [List.mem_singleton] at hii
      subst hii
      refine wpOp_step (by rfl) ?_
      intro K' hK'
      go_simp
      obtain ⟨A3, hV⟩ : ∃ V, V = A2.alloc (.cells #[.int .u64 0, .int .u64 0, .int .u64 0, .int .u64 0] 39) := ⟨_, rfl⟩
      rw [← hV]
      have HYA3 : Hid (RB w w4.heap.size A3) := Lib.hid (by rw [hV]; exact HYA2.out.nxt ((Below.refl _ _).alloc (Nat.le_refl _) _))
      have HBA3 : Hid (Below (w.heap.size + 1) (w.alloc (.cells #[.int .u64 0, .int .u64 0, .int .u64 0, .int .u64 0] 39)) A3) := Lib.hid (by rw [hV]; exact HBA2.out.trans (((Below.refl _ _).alloc (Nat.le_refl _) _).mono (bsz HBA2.out)))
      have HGA3 : Hid (A3.heap[A2.heap.size]? = some (.cells #[.int .u64 0, .int .u64 0, .int .u64 0, .int .u64 0] 39)) := Lib.hid (by rw [hV]; exact alloc_last4 _ _)
      have hg8 : w4.heap.size + 1 + 1 + 1 < A2.heap.size := lt_blk HYA2.out.2.2.2.2.2
      have hg9 : w.heap.size + 1 ≤ w4.heap.size := HYA2.out.2.1
      clear hV
      refine hK' _ _ ⟨HYA3.out, ?_⟩
      clear hK'
      obtain ⟨⟨t0, t1, t2, t3⟩, ⟨u0, u1, u2, u3⟩, uz⟩ := blk4f HGA3.out
      refine wpAnyH_all (rs := [6]) (by kernel_rfl) (by simp) ?_
      intro ii hii
      rw [List.mem_singleton] at hii
      subst hii
      refine wpOp_step (by rfl) ?_
      intro K' hK'
      go_simp
      obtain ⟨A3s, hV⟩ : ∃ V, V = (((A3.setCell ⟨A2.heap.size, 0, none⟩ (.int .u64 (sw (orP (orP (rng 97 122) (rng 65 90)) (rng 48 57)) 0 : Nat))).setCell ⟨A2.heap.size, 1, none⟩ (.int .u64 (sw (orP (orP (rng 97 122) (rng 65 90)) (rng 48 57)) 1 : Nat))).setCell ⟨A2.heap.size, 2, none⟩ (.int .u64 (sw (orP (orP (rng 97 122) (rng 65 90)) (rng 48 57)) 2 : Nat))).setCell ⟨A2.heap.size, 3, none⟩ (.int .u64 (sw (orP (orP (rng 97 122) (rng 65 90)) (rng 48 57)) 3 : Nat)) := ⟨_, rfl⟩
      rw [← hV]
      have HYA3s : Hid (RB w w4.heap.size A3s) := Lib.hid (by rw [hV]; exact (((HYA3.out.set _ 0 _ (Or.inr hg8)).set _ 1 _ (Or.inr hg8)).set _ 2 _ (Or.inr hg8)).set _ 3 _ (Or.inr hg8))
      have HBA3s : Hid (Below (w.heap.size + 1) (w.alloc (.cells #[.int .u64 0, .int .u64 0, .int .u64 0, .int .u64 0] 39)) A3s) := Lib.hid (by rw [hV]; exact (((HBA3.out.setCell (by simp; omega) _).setCell (by simp; omega) _).setCell (by simp; omega) _).setCell (by simp; omega) _)
      have HRA3s : Hid (Row4 A3s A2.heap.size 0 (orP (orP (rng 97 122) (rng 65 90)) (rng 48 57))) := Lib.hid (by rw [hV]; exact row4_put (p := noP) (orP (orP (rng 97 122) (rng 65 90)) (rng 48 57)) (row_no t0 t1 t2 t3))
      have hgz : A2.heap.size < A3s.heap.size := by rw [hV]; simpa using uz
      clear hV t0 t1 t2 t3 u0 u1 u2 u3 uz
      refine hK' _ _ ⟨HYA3s.out, ?_⟩
      clear hK'
      refine wpAnyH_done (by kernel_rfl) ?_ _
      obtain ⟨hF0, _, hF1, hF2, hF3, hF4⟩ := HYA3s.out
      obtain ⟨⟨a0, a1, a2, a3⟩, _⟩ := blk4 hF1
      obtain ⟨⟨b0, b1, b2, b3⟩, _⟩ := blk4 hF2
      obtain ⟨⟨c0, c1, c2, c3⟩, _⟩ := blk4 hF3
      obtain ⟨⟨d0, d1, d2, d3⟩, _⟩ := blk4 hF4
      clear hF0 hF1 hF2 hF3 hF4
      obtain ⟨e0, e1', e2', e3'⟩ := HRA3s.out
      have e1 : A3s.cell? ⟨A2.heap.size, 1, none⟩ = some (.int .u64 (sw (orP (orP (rng 97 122) (rng 65 90)) (rng 48 57)) 1 : Nat)) := e1'
      have e2 : A3s.cell? ⟨A2.heap.size, 2, none⟩ = some (.int .u64 (sw (orP (orP (rng 97 122) (rng 65 90)) (rng 48 57)) 2 : Nat)) := e2'
      have e3 : A3s.cell? ⟨A2.heap.size, 3, none⟩ = some (.int .u64 (sw (orP (orP (rng 97 122) (rng 65 90)) (rng 48 57)) 3 : Nat)) := e3'
      clear e1' e2' e3'
      obtain ⟨r0, r1, r2, r3, s0, s1, s2, s3, rz⟩ := res_facts HBA3s.out (Nat.lt_succ_self _)
      go_wp2
      exact bodyPost_ret (by simp [results, Tryd.results38, go_sem, r0, r1, r2, r3]; rfl) rfl ⟨rfl, res_below HBA3s.out _ _ _ _⟩
    · skip
      refine wpOp_step (by rfl) ?_
      intro K' hK'
      go_simp
      obtain ⟨C2, hV⟩ : ∃ V, V = A1.alloc (.cells #[.int .u64 0, .int .u64 0, .int .u64 0, .int .u64 0] 39) := ⟨_, rfl⟩
      rw [← hV]
      have HYC2 : Hid (RB w w4.heap.size C2) := Lib.hid (by rw [hV]; exact HYA1.out.nxt ((Below.refl _ _).alloc (Nat.le_refl _) _))
      have HBC2 : Hid (Below (w.heap.size + 1) (w.alloc (.cells #[.int .u64 0, .int .u64 0, .int .u64 0, .int .u64 0] 39)) C2) := Lib.hid (by rw [hV]; exact HBA1.out.trans (((Below.refl _ _).alloc (Nat.le_refl _) _).mono (bsz HBA1.out)))
      have HGC2 : Hid (C2.heap[A1.heap.size]? = some (.cells #[.int .u64 0, .int .u64 0, .int .u64 0, .int .u64 0] 39)) := Lib.hid (by rw [hV]; exact alloc_last4 _ _)
      have hg8 : w4.heap.size + 1 + 1 + 1 < A1.heap.size := lt_blk HYA1.out.2.2.2.2.2
      have hg9 : w.heap.size + 1 ≤ w4.heap.size := HYA1.out.2.1
      clear hV
      refine hK' _ _ ⟨HYC2.out, ?_⟩
      clear hK'
      refine wpAnyH_all (rs := [4]) (by kernel_rfl) (by simp) ?_
      intro ii hii
      rw [List.mem_singleton] at hii
      subst hii
      refine wpOp_step (by rfl) ?_
      intro K' hK'
      go_simp
      go_at_call 25
      refine (Y2 _).out.mono ?_
      rintro e C3 ⟨rfl, hbc⟩
      have HYC3 := Lib.hid (HYC2.out.nxt hbc)
      have HBC3 := Lib.hid (HBC2.out.trans (hbc.mono (bsz HBC2.out)))
      have HGC3 := Lib.hid ((hbc.block _ (lt_blk HGC2.out)).trans HGC2.out)
      clear hbc
      unfold SV
      refine hK' _ _ ⟨HYC3.out, ?_⟩
      clear hK'
      obtain ⟨⟨t0, t1, t2, t3⟩, ⟨u0, u1, u2, u3⟩, uz⟩ := blk4f HGC3.out
      refine wpAnyH_all (rs := [6]) (by kernel_rfl) (by simp) ?_
      intro ii hii
      rw [List.mem_singleton] at hii
      subst hii
      refine wpOp_step (by rfl) ?_
      intro K' hK'
      go_simp
      obtain ⟨C3s, hV⟩ : ∃ V, V = (((C3.setCell ⟨A1.heap.size, 0, none⟩ (.int .u64 (sw (orP (orP (rng 97 122) (rng 65 90)) (rng 48 57)) 0 : Nat))).setCell ⟨A1.heap.size, 1, none⟩ (.int .u64 (sw (orP (orP (rng 97 122) (rng 65 90)) (rng 48 57)) 1 : Nat))).setCell ⟨A1.heap.size, 2, none⟩ (.int .u64 (sw (orP (orP (rng 97 122) (rng 65 90)) (rng 48 57)) 2 : Nat))).setCell ⟨A1.heap.size, 3, none⟩ (.int .u64 (sw (orP (orP (rng 97 122) (rng 65 90)) (rng 48 57)) 3 : Nat)) := ⟨_, rfl⟩
      rw [← hV]
      have HYC3s : Hid (RB w w4.heap.size C3s) := Lib.hid (by rw [hV]; exact (((HYC3.out.set _ 0 _ (Or.inr hg8)).set _ 1 _ (Or.inr hg8)).set _ 2 _ (Or.inr hg8)).set _ 3 _ (Or.inr hg8))
      have HBC3s : Hid (Below (w.heap.size + 1) (w.alloc (.cells #[.int .u64 0, .int .u64 0, .int .u64 0, .int .u64 0] 39)) C3s) := Lib.hid (by rw [hV]; exact (((HBC3.out.setCell (by simp; omega) _).setCell (by simp; omega) _).setCell (by simp; omega) _).setCell (by simp; omega) _)
      have HRC3s : Hid (Row4 C3s A1.heap.size 0 (orP (orP (rng 97 122) (rng 65 90)) (rng 48 57))) := Lib.hid (by rw [hV]; exact row4_put (p := noP) (orP (orP (rng 97 122) (rng 65 90)) (rng 48 57)) (row_no t0 t1 t2 t3))
      have hgz : A1.heap.size < C3s.heap.size := by rw [hV]; simpa using uz
      clear hV t0 t1 t2 t3 u0 u1 u2 u3 uz
      refine hK' _ _ ⟨HYC3s.out, ?_⟩
      clear hK'
      refine wpAnyH_done (by kernel_rfl) ?_ _
      obtain ⟨hF0, _, hF1, hF2, hF3, hF4⟩ := HYC3s.out
      obtain ⟨⟨a0, a1, a2, a3⟩, _⟩ := blk4 hF1
      obtain ⟨⟨b0, b1, b2, b3⟩, _⟩ := blk4 hF2
      obtain ⟨⟨c0, c1, c2, c3⟩, _⟩ := blk4 hF3
      obtain ⟨⟨d0, d1, d2, d3⟩, _⟩ := blk4 hF4
      clear hF0 hF1 hF2 hF3 hF4
      obtain ⟨e0, e1', e2', e3'⟩ := HRC3s.out
      have e1 : C3s.cell? ⟨A1.heap.size, 1, none⟩ = some (.int .u64 (sw (orP (orP (rng 97 122) (rng 65 90)) (rng 48 57)) 1 : Nat)) := e1'
      have e2 : C3s.cell? ⟨A1.heap.size, 2, none⟩ = some (.int .u64 (sw (orP (orP (rng 97 122) (rng 65 90)) (rng 48 57)) 2 : Nat)) := e2'
      have e3 : C3s.cell? ⟨A1.heap.size, 3, none⟩ = some (.int .u64 (sw (orP (orP (rng 97 122) (rng 65 90)) (rng 48 57)) 3 : Nat)) := e3'
      clear e1' e2' e3'
      obtain ⟨r0, r1, r2, r3, s0, s1, s2, s3, rz⟩ := res_facts HBC3s.out (Nat.lt_succ_self _)
      go_wp2
      exact bodyPost_ret (by simp [results, Tryd.results38, go_sem, r0, r1, r2, r3]; rfl) rfl ⟨rfl, res_below HBC3s.out _ _ _ _⟩
  · skip
    refine wpOp_step (by rfl) ?_
    intro K' hK'
    go_simp
    obtain ⟨D1, hV⟩ : ∃ V, V = X0.alloc (.cells #[.int .u64 0, .int .u64 0, .int .u64 0, .int .u64 0] 39) := ⟨_, rfl⟩
    rw [← hV]
    have HYD1 : Hid (RB w w4.heap.size D1) := Lib.hid (by rw [hV]; exact HYX0.out.nxt ((Below.refl _ _).alloc (Nat.le_refl _) _))
    have HBD1 : Hid (Below (w.heap.size + 1) (w.alloc (.cells #[.int .u64 0, .int .u64 0, .int .u64 0, .int .u64 0] 39)) D1) := Lib.hid (by rw [hV]; exact HBX0.out.trans (((Below.refl _ _).alloc (Nat.le_refl _) _).mono (bsz HBX0.out)))
    have HGD1 : Hid (D1.heap[X0.heap.size]? = some (.cells #[.int .u64 0, .int .u64 0, .int .u64 0, .int .u64 0] 39)) := Lib.hid (by rw [hV]; exact alloc_last4 _ _)
    have hg8 : w4.heap.size + 1 + 1 + 1 < X0.heap.size := lt_blk HYX0.out.2.2.2.2.2
    have hg9 : w.heap.size + 1 ≤ w4.heap.size := HYX0.out.2.1
    clear hV
    refine hK' _ _ ⟨HYD1.out, ?_⟩
    clear hK'
    refine wpAnyH_all (rs := [2]) (by kernel_rfl) (by simp) ?_
    intro ii hii
    rw [List.mem_singleton] at hii
    subst hii
    refine wpOp_step (by rfl) ?_
    intro K' hK'
    go_simp
    go_at_call 25
    refine (Y1 _).out.mono ?_
    rintro e D2 ⟨rfl, hbc⟩
    have HYD2 := Lib.hid (HYD1.out.nxt hbc)
    have HBD2 := Lib.hid (HBD1.out.trans (hbc.mono (bsz HBD1.out)))
    have HGD2 := Lib.hid ((hbc.block _ (lt_blk HGD1.out)).trans HGD1.out)
    clear hbc
    unfold SV
    refine hK' _ _ ⟨HYD2.out, ?_⟩
    clear hK'
    refine wpAnyH_all (rs := [4]) (by kernel_rfl) (by simp) ?_
    intro ii hii
    rw [List.mem_singleton] at hii
    subst hii
    refine wpOp_step (by rfl) ?_
    intro K' hK'
    go_simp
    go_at_call 25
    refine (Y2 _).out.mono ?_
    rintro e D3 ⟨rfl, hbc⟩
    have HYD3 := Lib.hid (HYD2.out.nxt hbc)
    have HBD3 := Lib.hid (HBD2.out.trans (hbc.mono (bsz HBD2.out)))
    have HGD3 := Lib.hid ((hbc.block _ (lt_blk HGD2.out)).trans HGD2.out)
    clear hbc
    unfold SV
    refine hK' _ _ ⟨HYD3.out, ?_⟩
    clear hK'
    obtain ⟨⟨t0, t1, t2, t3⟩, ⟨u0, u1, u2, u3⟩, uz⟩ := blk4f HGD3.out
    refine wpAnyH_all (rs := [6]) (by kernel_rfl) (by simp) ?_
    intro ii hii
    rw [List.mem_singleton] at hii
    subst hii
    refine wpOp_step (by rfl) ?_
    intro K' hK'
    go_simp
    obtain ⟨D3s, hV⟩ : ∃ V, V = (((D3.setCell ⟨X0.heap.size, 0, none⟩ (.int .u64 (sw (orP (orP (rng 97 122) (rng 65 90)) (rng 48 57)) 0 : Nat))).setCell ⟨X0.heap.size, 1, none⟩ (.int .u64 (sw (orP (orP (rng 97 122) (rng 65 90)) (rng 48 57)) 1 : Nat))).setCell ⟨X0.heap.size, 2, none⟩ (.int .u64 (sw (orP (orP (rng 97 122) (rng 65 90)) (rng 48 57)) 2 : Nat))).setCell ⟨X0.heap.size, 3, none⟩ (.int .u64 (sw (orP (orP (rng 97 122) (rng 65 90)) (rng 48 57)) 3 : Nat)) := ⟨_, rfl⟩
    rw [← hV]
    have HYD3s : Hid (RB w w4.heap.size D3s) := Lib.hid (by rw [hV]; exact (((HYD3.out.set _ 0 _ (Or.inr hg8)).set _ 1 _ (Or.inr hg8)).set _ 2 _ (Or.inr hg8)).set _ 3 _ (Or.inr hg8))
    have HBD3s : Hid (Below (w.heap.size + 1) (w.alloc (.cells #[.int .u64 0, .int .u64 0, .int .u64 0, .int .u64 0] 39)) D3s) := Lib.hid (by rw [hV]; exact (((HBD3.out.setCell (by simp; omega) _).setCell (by simp; omega) _).setCell (by simp; omega) _).setCell (by simp; omega) _)
    have HRD3s : Hid (Row4 D3s X0.heap.size 0 (orP (orP (rng 97 122) (rng 65 90)) (rng 48 57))) := Lib.hid (by rw [hV]; exact row4_put (p := noP) (orP (orP (rng 97 122) (rng 65 90)) (rng 48 57)) (row_no t0 t1 t2 t3))
    have hgz : X0.heap.size < D3s.heap.size := by rw [hV]; simpa using uz
    clear hV t0 t1 t2 t3 u0 u1 u2 u3 uz
    refine hK' _ _ ⟨HYD3s.out, ?_⟩
    clear hK'
    refine wpAnyH_done (by kernel_rfl) ?_ _
    obtain ⟨hF0, _, hF1, hF2, hF3, hF4⟩ := HYD3s.out
    obtain ⟨⟨a0, a1, a2, a3⟩, _⟩ := blk4 hF1
    obtain ⟨⟨b0, b1, b2, b3⟩, _⟩ := blk4 hF2
    obtain ⟨⟨c0, c1, c2, c3⟩, _⟩ := blk4 hF3
    obtain ⟨⟨d0, d1, d2, d3⟩, _⟩ := blk4 hF4
    clear hF0 hF1 hF2 hF3 hF4
    obtain ⟨e0, e1', e2', e3'⟩ := HRD3s.out
    have e1 : D3s.cell? ⟨X0.heap.size, 1, none⟩ = some (.int .u64 (sw (orP (orP (rng 97 122) (rng 65 90)) (rng 48 57)) 1 : Nat)) := e1'
    have e2 : D3s.cell? ⟨X0.heap.size, 2, none⟩ = some (.int .u64 (sw (orP (orP (rng 97 122) (rng 65 90)) (rng 48 57)) 2 : Nat)) := e2'
    have e3 : D3s.cell? ⟨X0.heap.size, 3, none⟩ = some (.int .u64 (sw (orP (orP (rng 97 122) (rng 65 90)) (rng 48 57)) 3 : Nat)) := e3'
    clear e1' e2' e3'
    obtain ⟨r0, r1, r2, r3, s0, s1, s2, s3, rz⟩ := res_facts HBD3s.out (Nat.lt_succ_self _)
    go_wp2
    exact bodyPost_ret (by simp [results, Tryd.results38, go_sem, r0, r1, r2, r3]; rfl) rfl ⟨rfl, res_below HBD3s.out _ _ _ _⟩

set_option maxRecDepth 100000 in
set_option maxHeartbeats 16000000 in
theorem rclass_lower (w : World) :
    Calls Tryd.prog 38 #[.string ⟨#[108, 111, 119, 101, 114]⟩] w fun e w' => e = .returned (.tuple #[SV (rng 97 122), .bool true]) ∧ Below w.heap.size w w' := by
  have X1 : ∀ w, Hid (Calls Tryd.prog 26 #[.int .u8 97, .int .u8 122] w fun e w' => e = .returned (SV (rng 97 122)) ∧ Below w.heap.size w w') := fun w => Lib.hid (rrange_any 97 122 (by omega) (by omega) w)
  have X2 : ∀ w, Hid (Calls Tryd.prog 26 #[.int .u8 65, .int .u8 90] w fun e w' => e = .returned (SV (rng 65 90)) ∧ Below w.heap.size w w') := fun w => Lib.hid (rrange_any 65 90 (by omega) (by omega) w)
  have X3 : ∀ w, Hid (Calls Tryd.prog 26 #[.int .u8 48, .int .u8 57] w fun e w' => e = .returned (SV (rng 48 57)) ∧ Below w.heap.size w w') := fun w => Lib.hid (rrange_any 48 57 (by omega) (by omega) w)
  have X4 : ∀ w, Hid (Calls Tryd.prog 26 #[.int .u8 33, .int .u8 126] w fun e w' => e = .returned (SV (rng 33 126)) ∧ Below w.heap.size w w') := fun w => Lib.hid (rrange_any 33 126 (by omega) (by omega) w)
  have Y1 : ∀ w, Hid (Calls Tryd.prog 25 #[.agg #[.int .u64 (sw (rng 97 122) 0 : Nat), .int .u64 (sw (rng 97 122) 1 : Nat), .int .u64 (sw (rng 97 122) 2 : Nat), .int .u64 (sw (rng 97 122) 3 : Nat)], .agg #[.int .u64 (sw (rng 65 90) 0 : Nat), .int .u64 (sw (rng 65 90) 1 : Nat), .int .u64 (sw (rng 65 90) 2 : Nat), .int .u64 (sw (rng 65 90) 3 : Nat)]] w fun e w' => e = .returned (SV (orP (rng 97 122) (rng 65 90))) ∧ Below w.heap.size w w') := fun w => Lib.hid (ror_any (rng 97 122) (rng 65 90) w)
  have Y2 : ∀ w, Hid (Calls Tryd.prog 25 #[.agg #[.int .u64 (sw (orP (rng 97 122) (rng 65 90)) 0 : Nat), .int .u64 (sw (orP (rng 97 122) (rng 65 90)) 1 : Nat), .int .u64 (sw (orP (rng 97 122) (rng 65 90)) 2 : Nat), .int .u64 (sw (orP (rng 97 122) (rng 65 90)) 3 : Nat)], .agg #[.int .u64 (sw (rng 48 57) 0 : Nat), .int .u64 (sw (rng 48 57) 1 : Nat), .int .u64 (sw (rng 48 57) 2 : Nat), .int .u64 (sw (rng 48 57) 3 : Nat)]] w fun e w' => e = .returned (SV (orP (orP (rng 97 122) (rng 65 90)) (rng 48 57))) ∧ Below w.heap.size w w') := fun w => Lib.hid (ror_any (orP (rng 97 122) (rng 65 90)) (rng 48 57) w)
  go_enter Tryd.func38, Tryd.ntmps38
  go_wp2_with fail
  have HB0 : Hid (Below (w.heap.size + 1) (w.alloc (.cells #[.int .u64 0, .int .u64 0, .int .u64 0, .int .u64 0] 39)) (w.alloc (.cells #[.int .u64 0, .int .u64 0, .int .u64 0, .int .u64 0] 39))) := Lib.hid (Below.refl _ _)
  refine (X1 _).out.mono ?_
  rintro e w1 ⟨rfl, hb1⟩
  have HB1 := Lib.hid (HB0.out.trans (hb1.mono (bsz HB0.out)))
  clear hb1
  go_wp2_with fail
  refine (X2 _).out.mono ?_
  rintro e w2 ⟨rfl, hb2⟩
  have HB2 := Lib.hid (HB1.out.trans (hb2.mono (bsz HB1.out)))
  clear hb2
  go_wp2_with fail
  refine (X3 _).out.mono ?_
  rintro e w3 ⟨rfl, hb3⟩
  have HB3 := Lib.hid (HB2.out.trans (hb3.mono (bsz HB2.out)))
  clear hb3
  go_wp2_with fail
  refine (X4 _).out.mono ?_
  rintro e w4 ⟨rfl, hb4⟩
  have HB4 := Lib.hid (HB3.out.trans (hb4.mono (bsz HB3.out)))
  clear hb4
  unfold SV
  go_wp2_with fail
  have HKS := RB.start w w4 HB4.out
  have HBW := Lib.hid ((((HB4.out.alloc (bsz HB4.out) (.cells #[.int .u64 (sw (rng 97 122) 0 : Nat), .int .u64 (sw (rng 97 122) 1 : Nat), .int .u64 (sw (rng 97 122) 2 : Nat), .int .u64 (sw (rng 97 122) 3 : Nat)] 39)).alloc (by have := HB4.out.size; simp at this; simp; omega) (.cells #[.int .u64 (sw (rng 65 90) 0 : Nat), .int .u64 (sw (rng 65 90) 1 : Nat), .int .u64 (sw (rng 65 90) 2 : Nat), .int .u64 (sw (rng 65 90) 3 : Nat)] 39)).alloc (by have := HB4.out.size; simp at this; simp; omega) (.cells #[.int .u64 (sw (rng 48 57) 0 : Nat), .int .u64 (sw (rng 48 57) 1 : Nat), .int .u64 (sw (rng 48 57) 2 : Nat), .int .u64 (sw (rng 48 57) 3 : Nat)] 39)).alloc (by have := HB4.out.size; simp at this; simp; omega) (.cells #[.int .u64 (sw (rng 33 126) 0 : Nat), .int .u64 (sw (rng 33 126) 1 : Nat), .int .u64 (sw (rng 33 126) 2 : Nat), .int .u64 (sw (rng 33 126) 3 : Nat)] 39))
  obtain ⟨V, hV⟩ : ∃ V, V = (((w4.alloc (.cells #[.int .u64 (sw (rng 97 122) 0 : Nat), .int .u64 (sw (rng 97 122) 1 : Nat), .int .u64 (sw (rng 97 122) 2 : Nat), .int .u64 (sw (rng 97 122) 3 : Nat)] 39)).alloc (.cells #[.int .u64 (sw (rng 65 90) 0 : Nat), .int .u64 (sw (rng 65 90) 1 : Nat), .int .u64 (sw (rng 65 90) 2 : Nat), .int .u64 (sw (rng 65 90) 3 : Nat)] 39)).alloc (.cells #[.int .u64 (sw (rng 48 57) 0 : Nat), .int .u64 (sw (rng 48 57) 1 : Nat), .int .u64 (sw (rng 48 57) 2 : Nat), .int .u64 (sw (rng 48 57) 3 : Nat)] 39)).alloc (.cells #[.int .u64 (sw (rng 33 126) 0 : Nat), .int .u64 (sw (rng 33 126) 1 : Nat), .int .u64 (sw (rng 33 126) 2 : Nat), .int .u64 (sw (rng 33 126) 3 : Nat)] 39) := ⟨_, rfl⟩
  rw [← hV] at HKS HBW ⊢
  clear hV
  have HY0 : Hid (RB w w4.heap.size V.drew) := Lib.hid (HKS.nxt (Below.refl _ _).drew)
  have HBV : Hid (Below (w.heap.size + 1) (w.alloc (.cells #[.int .u64 0, .int .u64 0, .int .u64 0, .int .u64 0] 39)) V.drew) := Lib.hid HBW.out.drew
  clear HKS HBW
  refine wp_region_held (S := fun X => RB w w4.heap.size X) (by kernel_rfl) ?_
  try (change wpAnyH _ _ _ _ _ _ _ _ (World.drew _))
  generalize V.drew = X0 at *
  refine wpAnyH_take (i := 0) (v := .agg #[.int .u64 (sw (rng 97 122) 0 : Nat), .int .u64 (sw (rng 97 122) 1 : Nat), .int .u64 (sw (rng 97 122) 2 : Nat), .int .u64 (sw (rng 97 122) 3 : Nat)]) rfl (by kernel_rfl) (by kernel_rfl) (by kernel_rfl) (fun _ _ _ h => h) (Or.inl ⟨by kernel_rfl, ?_⟩) HY0.out ?_
  · intro X hS; obtain ⟨_, _, hS3, hS4, hS5, hS6⟩ := hS; obtain ⟨⟨z0, z1, z2, z3⟩, _⟩ := blk4 hS3; clear hS3 hS4 hS5 hS6; go_simp
  try simp only [Act.put, List.setIfInBounds_toArray]
  refine wpAnyH_take (i := 1) (v := .agg #[.int .u64 (sw (rng 65 90) 0 : Nat), .int .u64 (sw (rng 65 90) 1 : Nat), .int .u64 (sw (rng 65 90) 2 : Nat), .int .u64 (sw (rng 65 90) 3 : Nat)]) rfl (by kernel_rfl) (by kernel_rfl) (by kernel_rfl) (fun _ _ _ h => h) (Or.inl ⟨by kernel_rfl, ?_⟩) HY0.out ?_
  · intro X hS; obtain ⟨_, _, hS3, hS4, hS5, hS6⟩ := hS; obtain ⟨⟨z0, z1, z2, z3⟩, _⟩ := blk4 hS4; clear hS3 hS4 hS5 hS6; go_simp
  try simp only [Act.put]
  refine wpAnyH_take (i := 3) (v := .agg #[.int .u64 (sw (rng 48 57) 0 : Nat), .int .u64 (sw (rng 48 57) 1 : Nat), .int .u64 (sw (rng 48 57) 2 : Nat), .int .u64 (sw (rng 48 57) 3 : Nat)]) rfl (by kernel_rfl) (by kernel_rfl) (by kernel_rfl) (fun _ _ _ h => h) (Or.inl ⟨by kernel_rfl, ?_⟩) HY0.out ?_
  · intro X hS; obtain ⟨_, _, hS3, hS4, hS5, hS6⟩ := hS; obtain ⟨⟨z0, z1, z2, z3⟩, _⟩ := blk4 hS5; clear hS3 hS4 hS5 hS6; go_simp
  try simp only [Act.put]
  have HYX0 := HY0
  have HBX0 := HBV
  refine wpAnyH_all (rs := [2, 5]) (by kernel_rfl) (by simp) ?_
  intro ii hii
  simp only [List.mem_cons, List.not_mem_nil, or_false] at hii
  rcases hii with rfl | rfl
  · skip
    refine wpOp_step (by rfl) ?_
    intro K' hK'
    go_simp
    go_at_call 25
    refine (Y1 _).out.mono ?_
    rintro e A1 ⟨rfl, hbc⟩
    have HYA1 := Lib.hid (HYX0.out.nxt hbc)
    have HBA1 := Lib.hid (HBX0.out.trans (hbc.mono (bsz HBX0.out)))
    clear hbc
    unfold SV
    refine hK' _ _ ⟨HYA1.out, ?_⟩
    clear hK'
    refine wpAnyH_all (rs := [4, 5]) (by kernel_rfl) (by simp) ?_
    intro ii hii
    simp only [List.mem_cons, List.not_mem_nil, or_false] at hii
    rcases hii with rfl | rfl
    · skip
      refine wpOp_step (by rfl) ?_
      intro K' hK'
      go_simp
      go_at_call 25
      refine (Y2 _).out.mono ?_
      rintro e A2 ⟨rfl, hbc⟩
      have HYA2 := Lib.hid (HYA1.out.nxt hbc)
      have HBA2 := Lib.hid (HBA1.out.trans (hbc.mono (bsz HBA1.out)))
      clear hbc
      unfold SV
      refine hK' _ _ ⟨HYA2.out, ?_⟩
      clear hK'
      refine wpAnyH_all (rs := [5]) (by kernel_rfl) (by simp) ?_
      intro ii hii
      rw [List.mem_singleton] at hii
      subst hii
      refine wpOp_step (by rfl) ?_
      intro K' hK'
      go_simp
      obtain ⟨A3, hV⟩ : ∃ V, V = A2.alloc (.cells #[.int .u64 0, .int .u64 0, .int .u64 0, .int .u64 0] 39) := ⟨_, rfl⟩
      rw [← hV]
      have HYA3 : Hid (RB w w4.heap.size A3) := Lib.hid (by rw [hV]; exact HYA2.out.nxt ((Below.refl _ _).alloc (Nat.le_refl _) _))
      have HBA3 : Hid (Below (w.heap.size + 1) (w.alloc (.cells #[.int .u64 0, .int .u64 0, .int .u64 0, .int .u64 0] 39)) A3) := Lib.hid (by rw [hV]; exact HBA2.out.trans (((Below.refl _ _).alloc (Nat.le_refl _) _).mono (bsz HBA2.out)))
      have HGA3 : Hid (A3.heap[A2.heap.size]? = some (.cells #[.int .u64 0, .int .u64 0, .int .u64 0, .int .u64 0] 39)) := Lib.hid (by rw [hV]; exact alloc_last4 _ _)
      have hg8 : w4.heap.size + 1 + 1 + 1 < A2.heap.size := lt_blk HYA2.out.2.2.2.2.2
      have hg9 : w.heap.size + 1 ≤ w4.heap.size := HYA2.out.2.1
      clear hV
      refine hK' _ _ ⟨HYA3.out, ?_⟩
      clear hK'
      obtain ⟨⟨t0, t1, t2, t3⟩, ⟨u0, u1, u2, u3⟩, uz⟩ := blk4f HGA3.out
      refine wpAnyH_all (rs := [6]) (by kernel_rfl) (by simp) ?_
      intro ii hii
      rw [List.mem_singleton] at hii
      subst hii
      refine wpOp_step (by rfl) ?_
      intro K' hK'
      go_simp
      obtain ⟨A3s, hV⟩ : ∃ V, V = (((A3.setCell ⟨A2.heap.size, 0, none⟩ (.int .u64 (sw (orP (orP (rng 97 122) (rng 65 90)) (rng 48 57)) 0 : Nat))).setCell ⟨A2.heap.size, 1, none⟩ (.int .u64 (sw (orP (orP (rng 97 122) (rng 65 90)) (rng 48 57)) 1 : Nat))).setCell ⟨A2.heap.size, 2, none⟩ (.int .u64 (sw (orP (orP (rng 97 122) (rng 65 90)) (rng 48 57)) 2 : Nat))).setCell ⟨A2.heap.size, 3, none⟩ (.int .u64 (sw (orP (orP (rng 97 122) (rng 65 90)) (rng 48 57)) 3 : Nat)) := ⟨_, rfl⟩
      rw [← hV]
      have HYA3s : Hid (RB w w4.heap.size A3s) := Lib.hid (by rw [hV]; exact (((HYA3.out.set _ 0 _ (Or.inr hg8)).set _ 1 _ (Or.inr hg8)).set _ 2 _ (Or.inr hg8)).set _ 3 _ (Or.inr hg8))
      have HBA3s : Hid (Below (w.heap.size + 1) (w.alloc (.cells #[.int .u64 0, .int .u64 0, .int .u64 0, .int .u64 0] 39)) A3s) := Lib.hid (by rw [hV]; exact (((HBA3.out.setCell (by simp; omega) _).setCell (by simp; omega) _).setCell (by simp; omega) _).setCell (by simp; omega) _)
      have HRA3s : Hid (Row4 A3s A2.heap.size 0 (orP (orP (rng 97 122) (rng 65 90)) (rng 48 57))) := Lib.hid (by rw [hV]; exact row4_put (p := noP) (orP (orP (rng 97 122) (rng 65 90)) (rng 48 57)) (row_no t0 t1 t2 t3))
      have hgz : A2.heap.size < A3s.heap.size := by rw [hV]; simpa using uz
      clear hV t0 t1 t2 t3 u0 u1 u2 u3 uz
      refine hK' _ _ ⟨HYA3s.out, ?_⟩
      clear hK'
      refine wpAnyH_done (by kernel_rfl) ?_ _
      obtain ⟨hF0, _, hF1, hF2, hF3, hF4⟩ := HYA3s.out
      obtain ⟨⟨a0, a1, a2, a3⟩, _⟩ := blk4 hF1
      obtain ⟨⟨b0, b1, b2, b3⟩, _⟩ := blk4 hF2
      obtain ⟨⟨c0, c1, c2, c3⟩, _⟩ := blk4 hF3
      obtain ⟨⟨d0, d1, d2, d3⟩, _⟩ := blk4 hF4
      clear hF0 hF1 hF2 hF3 hF4
      obtain ⟨e0, e1', e2', e3'⟩ := HRA3s.out
      have e1 : A3s.cell? ⟨A2.heap.size, 1, none⟩ = some (.int .u64 (sw (orP (orP (rng 97 122) (rng 65 90)) (rng 48 57)) 1 : Nat)) := e1'
      have e2 : A3s.cell? ⟨A2.heap.size, 2, none⟩ = some (.int .u64 (sw (orP (orP (rng 97 122) (rng 65 90)) (rng 48 57)) 2 : Nat)) := e2'
      have e3 : A3s.cell? ⟨A2.heap.size, 3, none⟩ = some (.int .u64 (sw (orP (orP (rng 97 122) (rng 65 90)) (rng 48 57)) 3 : Nat)) := e3'
      clear e1' e2' e3'
      obtain ⟨r0, r1, r2, r3, s0, s1, s2, s3, rz⟩ := res_facts HBA3s.out (Nat.lt_succ_self _)
      go_wp2
      exact bodyPost_ret (by simp [results, Tryd.results38, go_sem, r0, r1, r2, r3]; rfl) rfl ⟨rfl, res_below HBA3s.out _ _ _ _⟩
    · skip
      refine wpOp_step (by rfl) ?_
      intro K' hK'
      go_simp
      obtain ⟨C2, hV⟩ : ∃ V, V = A1.alloc (.cells #[.int .u64 0, .int .u64 0, .int .u64 0, .int .u64 0] 39) := ⟨_, rfl⟩
      rw [← hV]
      have HYC2 : Hid (RB w w4.heap.size C2) := Lib.hid (by rw [hV]; exact HYA1.out.nxt ((Below.refl _ _).alloc (Nat.le_refl _) _))
      have HBC2 : Hid (Below (w.heap.size + 1) (w.alloc (.cells #[.int .u64 0, .int .u64 0, .int .u64 0, .int .u64 0] 39)) C2) := Lib.hid (by rw [hV]; exact HBA1.out.trans (((Below.refl _ _).alloc (Nat.le_refl _) _).mono (bsz HBA1.out)))
      have HGC2 : Hid (C2.heap[A1.heap.size]? = some (.cells #[.int .u64 0, .int .u64 0, .int .u64 0, .int .u64 0] 39)) := Lib.hid (by rw [hV]; exact alloc_last4 _ _)
      have hg8 : w4.heap.size + 1 + 1 + 1 < A1.heap.size := lt_blk HYA1.out.2.2.2.2.2
      have hg9 : w.heap.size + 1 ≤ w4.heap.size := HYA1.out.2.1
      clear hV
      refine hK' _ _ ⟨HYC2.out, ?_⟩
      clear hK'
      refine wpAnyH_all (rs := [4]) (by kernel_rfl) (by simp) ?_
      intro ii hii
      rw [List.mem_singleton] at hii
      subst hii
      refine wpOp_step (by rfl) ?_
      intro K' hK'
      go_simp
      go_at_call 25
      refine (Y2 _).out.mono ?_
      rintro e C3 ⟨rfl, hbc⟩
      have HYC3 := Lib.hid (HYC2.out.nxt hbc)
      have HBC3 := Lib.hid (HBC2.out.trans (hbc.mono (bsz HBC2.out)))
      have HGC3 := Lib.hid ((hbc.block _ (lt_blk HGC2.out)).trans HGC2.out)
      clear hbc
      unfold SV
      refine hK' _ _ ⟨HYC3.out, ?_⟩
      clear hK'
      obtain ⟨⟨t0, t1, t2, t3⟩, ⟨u0, u1, u2, u3⟩, uz⟩ := blk4f HGC3.out
      refine wpAnyH_all (rs := [6]) (by kernel_rfl) (by simp) ?_
      intro ii hii
      rw [List.mem_singleton] at hii
      subst hii
      refine wpOp_step (by rfl) ?_
      intro K' hK'
      go_simp
      obtain ⟨C3s, hV⟩ : ∃ V, V = (((C3.setCell ⟨A1.heap.size, 0, none⟩ (.int .u64 (sw (orP (orP (rng 97 122) (rng 65 90)) (rng 48 57)) 0 : Nat))).setCell ⟨A1.heap.size, 1, none⟩ (.int .u64 (sw (orP (orP (rng 97 122) (rng 65 90)) (rng 48 57)) 1 : Nat))).setCell ⟨A1.heap.size, 2, none⟩ (.int .u64 (sw (orP (orP (rng 97 122) (rng 65 90)) (rng 48 57)) 2 : Nat))).setCell ⟨A1.heap.size, 3, none⟩ (.int .u64 (sw (orP (orP (rng 97 122) (rng 65 90)) (rng 48 57)) 3 : Nat)) := ⟨_, rfl⟩
      rw [← hV]
      have HYC3s : Hid (RB w w4.heap.size C3s) := Lib.hid (by rw [hV]; exact (((HYC3.out.set _ 0 _ (Or.inr hg8)).set _ 1 _ (Or.inr hg8)).set _ 2 _ (Or.inr hg8)).set _ 3 _ (Or.inr hg8))
      have HBC3s : Hid (Below (w.heap.size + 1) (w.alloc (.cells #[.int .u64 0, .int .u64 0, .int .u64 0, .int .u64 0] 39)) C3s) := Lib.hid (by rw [hV]; exact (((HBC3.out.setCell (by simp; omega) _).setCell (by simp; omega) _).setCell (by simp; omega) _).setCell (by simp; omega) _)
      have HRC3s : Hid (Row4 C3s A1.heap.size 0 (orP (orP (rng 97 122) (rng 65 90)) (rng 48 57))) := Lib.hid (by rw [hV]; exact row4_put (p := noP) (orP (orP (rng 97 122) (rng 65 90)) (rng 48 57)) (row_no t0 t1 t2 t3))
      have hgz : A1.heap.size < C3s.heap.size := by rw [hV]; simpa using uz
      clear hV t0 t1 t2 t3 u0 u1 u2 u3 uz
      refine hK' _ _ ⟨HYC3s.out, ?_⟩
      clear hK'
      refine wpAnyH_done (by kernel_rfl) ?_ _
      obtain ⟨hF0, _, hF1, hF2, hF3, hF4⟩ := HYC3s.out
      obtain ⟨⟨a0, a1, a2, a3⟩, _⟩ := blk4 hF1
      obtain ⟨⟨b0, b1, b2, b3⟩, _⟩ := blk4 hF2
      obtain ⟨⟨c0, c1, c2, c3⟩, _⟩ := blk4 hF3
      obtain ⟨⟨d0, d1, d2, d3⟩, _⟩ := blk4 hF4
      clear hF0 hF1 hF2 hF3 hF4
      obtain ⟨e0, e1', e2', e3'⟩ := HRC3s.out
      have e1 : C3s.cell? ⟨A1.heap.size, 1, none⟩ = some (.int .u64 (sw (orP (orP (rng 97 122) (rng 65 90)) (rng 48 57)) 1 : Nat)) := e1'
      have e2 : C3s.cell? ⟨A1.heap.size, 2, none⟩ = some (.int .u64 (sw (orP (orP (rng 97 122) (rng 65 90)) (rng 48 57)) 2 : Nat)) := e2'
      have e3 : C3s.cell? ⟨A1.heap.size, 3, none⟩ = some (.int .u64 (sw (orP (orP (rng 97 122) (rng 65 90)) (rng 48 57)) 3 : Nat)) := e3'
      clear e1' e2' e3'
      obtain ⟨r0, r1, r2, r3, s0, s1, s2, s3, rz⟩ := res_facts HBC3s.out (Nat.lt_succ_self _)
      go_wp2
      exact bodyPost_ret (by simp [results, Tryd.results38, go_sem, r0, r1, r2, r3]; rfl) rfl ⟨rfl, res_below HBC3s.out _ _ _ _⟩
  · skip
    refine wpOp_step (by rfl) ?_
    intro K' hK'
    go_simp
    obtain ⟨D1, hV⟩ : ∃ V, V = X0.alloc (.cells #[.int .u64 0, .int .u64 0, .int .u64 0, .int .u64 0] 39) := ⟨_, rfl⟩
    rw [← hV]
    have HYD1 : Hid (RB w w4.heap.size D1) := Lib.hid (by rw [hV]; exact HYX0.out.nxt ((Below.refl _ _).alloc (Nat.le_refl _) _))
    have HBD1 : Hid (Below (w.heap.size + 1) (w.alloc (.cells #[.int .u64 0, .int .u64 0, .int .u64 0, .int .u64 0] 39)) D1) := Lib.hid (by rw [hV]; exact HBX0.out.trans (((Below.refl _ _).alloc (Nat.le_refl _) _).mono (bsz HBX0.out)))
    have HGD1 : Hid (D1.heap[X0.heap.size]? = some (.cells #[.int .u64 0, .int .u64 0, .int .u64 0, .int .u64 0] 39)) := Lib.hid (by rw [hV]; exact alloc_last4 _ _)
    have hg8 : w4.heap.size + 1 + 1 + 1 < X0.heap.size := lt_blk HYX0.out.2.2.2.2.2
    have hg9 : w.heap.size + 1 ≤ w4.heap.size := HYX0.out.2.1
    clear hV
    refine hK' _ _ ⟨HYD1.out, ?_⟩
    clear hK'
    refine wpAnyH_all (rs := [2]) (by kernel_rfl) (by simp) ?_
    intro ii hii
    rw [List.mem_singleton] at hii
    subst hii
    refine wpOp_step (by rfl) ?_
    intro K' hK'
    go_simp
    go_at_call 25
    refine (Y1 _).out.mono ?_
    rintro e D2 ⟨rfl, hbc⟩
    have HYD2 := Lib.hid (HYD1.out.nxt hbc)
    have HBD2 := Lib.hid (HBD1.out.trans (hbc.mono (bsz HBD1.out)))
    have HGD2 := Lib.hid ((hbc.block _ (lt_blk HGD1.out)).trans HGD1.out)
    clear hbc
    unfold SV
    refine hK' _ _ ⟨HYD2.out, ?_⟩
    clear hK'
    refine wpAnyH_all (rs := [4]) (by kernel_rfl) (by simp) ?_
    intro ii hii
    rw [List.mem_singleton] at hii
    subst hii
    refine wpOp_step (by rfl) ?_
    intro K' hK'
    go_simp
    go_at_call 25
    refine (Y2 _).out.mono ?_
    rintro e D3 ⟨rfl, hbc⟩
    have HYD3 := Lib.hid (HYD2.out.nxt hbc)
    have HBD3 := Lib.hid (HBD2.out.trans (hbc.mono (bsz HBD2.out)))
    have HGD3 := Lib.hid ((hbc.block _ (lt_blk HGD2.out)).trans HGD2.out)
    clear hbc
    unfold SV
    refine hK' _ _ ⟨HYD3.out, ?_⟩
    clear hK'
    obtain ⟨⟨t0, t1, t2, t3⟩, ⟨u0, u1, u2, u3⟩, uz⟩ := blk4f HGD3.out
    refine wpAnyH_all (rs := [6]) (by kernel_rfl) (by simp) ?_
    intro ii hii
    rw [List.mem_singleton] at hii
    subst hii
    refine wpOp_step (by rfl) ?_
    intro K' hK'
    go_simp
    obtain ⟨D3s, hV⟩ : ∃ V, V = (((D3.setCell ⟨X0.heap.size, 0, none⟩ (.int .u64 (sw (orP (orP (rng 97 122) (rng 65 90)) (rng 48 57)) 0 : Nat))).setCell ⟨X0.heap.size, 1, none⟩ (.int .u64 (sw (orP (orP (rng 97 122) (rng 65 90)) (rng 48 57)) 1 : Nat))).setCell ⟨X0.heap.size, 2, none⟩ (.int .u64 (sw (orP (orP (rng 97 122) (rng 65 90)) (rng 48 57)) 2 : Nat))).setCell ⟨X0.heap.size, 3, none⟩ (.int .u64 (sw (orP (orP (rng 97 122) (rng 65 90)) (rng 48 57)) 3 : Nat)) := ⟨_, rfl⟩
    rw [← hV]
    have HYD3s : Hid (RB w w4.heap.size D3s) := Lib.hid (by rw [hV]; exact (((HYD3.out.set _ 0 _ (Or.inr hg8)).set _ 1 _ (Or.inr hg8)).set _ 2 _ (Or.inr hg8)).set _ 3 _ (Or.inr hg8))
    have HBD3s : Hid (Below (w.heap.size + 1) (w.alloc (.cells #[.int .u64 0, .int .u64 0, .int .u64 0, .int .u64 0] 39)) D3s) := Lib.hid (by rw [hV]; exact (((HBD3.out.setCell (by simp; omega) _).setCell (by simp; omega) _).setCell (by simp; omega) _).setCell (by simp; omega) _)
    have HRD3s : Hid (Row4 D3s X0.heap.size 0 (orP (orP (rng 97 122) (rng 65 90)) (rng 48 57))) := Lib.hid (by rw [hV]; exact row4_put (p := noP) (orP (orP (rng 97 122) (rng 65 90)) (rng 48 57)) (row_no t0 t1 t2 t3))
    have hgz : X0.heap.size < D3s.heap.size := by rw [hV]; simpa using uz
    clear hV t0 t1 t2 t3 u0 u1 u2 u3 uz
    refine hK' _ _ ⟨HYD3s.out, ?_⟩
    clear hK'
    refine wpAnyH_done (by kernel_rfl) ?_ _
    obtain ⟨hF0, _, hF1, hF2, hF3, hF4⟩ := HYD3s.out
    obtain ⟨⟨a0, a1, a2, a3⟩, _⟩ := blk4 hF1
    obtain ⟨⟨b0, b1, b2, b3⟩, _⟩ := blk4 hF2
    obtain ⟨⟨c0, c1, c2, c3⟩, _⟩ := blk4 hF3
    obtain ⟨⟨d0, d1, d2, d3⟩, _⟩ := blk4 hF4
    clear hF0 hF1 hF2 hF3 hF4
    obtain ⟨e0, e1', e2', e3'⟩ := HRD3s.out
    have e1 : D3s.cell? ⟨X0.heap.size, 1, none⟩ = some (.int .u64 (sw (orP (orP (rng 97 122) (rng 65 90)) (rng 48 57)) 1 : Nat)) := e1'
    have e2 : D3s.cell? ⟨X0.heap.size, 2, none⟩ = some (.int .u64 (sw (orP (orP (rng 97 122) (rng 65 90)) (rng 48 57)) 2 : Nat)) := e2'
    have e3 : D3s.cell? ⟨X0.heap.size, 3, none⟩ = some (.int .u64 (sw (orP (orP (rng 97 122) (rng 65 90)) (rng 48 57)) 3 : Nat)) := e3'
    clear e1' e2' e3'
    obtain ⟨r0, r1, r2, r3, s0, s1, s2, s3, rz⟩ := res_facts HBD3s.out (Nat.lt_succ_self _)
    go_wp2
    exact bodyPost_ret (by simp [results, Tryd.results38, go_sem, r0, r1, r2, r3]; rfl) rfl ⟨rfl, res_below HBD3s.out _ _ _ _⟩

set_option maxRecDepth 100000 in
set_option maxHeartbeats 16000000 in
theorem rclass_graph (w : World) :
    Calls Tryd.prog 38 #[.string ⟨#[103, 114, 97, 112, 104]⟩] w fun e w' => e = .returned (.tuple #[SV (rng 33 126), .bool true]) ∧ Below w.heap.size w w' := by
  have X1 : ∀ w, Hid (Calls Tryd.prog 26 #[.int .u8 97, .int .u8 122] w fun e w' => e = .returned (SV (rng 97 122)) ∧ Below w.heap.size w w') := fun w => Lib.hid (rrange_any 97 122 (by omega) (by omega) w)
  have X2 : ∀ w, Hid (Calls Tryd.prog 26 #[.int .u8 65, .int .u8 90] w fun e w' => e = .returned (SV (rng 65 90)) ∧ Below w.heap.size w w') := fun w => Lib.hid (rrange_any 65 90 (by omega) (by omega) w)
  have X3 : ∀ w, Hid (Calls Tryd.prog 26 #[.int .u8 48, .int .u8 57] w fun e w' => e = .returned (SV (rng 48 57)) ∧ Below w.heap.size w w') := fun w => Lib.hid (rrange_any 48 57 (by omega) (by omega) w)
  have X4 : ∀ w, Hid (Calls Tryd.prog 26 #[.int .u8 33, .int .u8 126] w fun e w' => e = .returned (SV (rng 33 126)) ∧ Below w.heap.size w w') := fun w => Lib.hid (rrange_any 33 126 (by omega) (by omega) w)
  have Y1 : ∀ w, Hid (Calls Tryd.prog 25 #[.agg #[.int .u64 (sw (rng 97 122) 0 : Nat), .int .u64 (sw (rng 97 122) 1 : Nat), .int .u64 (sw (rng 97 122) 2 : Nat), .int .u64 (sw (rng 97 122) 3 : Nat)], .agg #[.int .u64 (sw (rng 65 90) 0 : Nat), .int .u64 (sw (rng 65 90) 1 : Nat), .int .u64 (sw (rng 65 90) 2 : Nat), .int .u64 (sw (rng 65 90) 3 : Nat)]] w fun e w' => e = .returned (SV (orP (rng 97 122) (rng 65 90))) ∧ Below w.heap.size w w') := fun w => Lib.hid (ror_any (rng 97 122) (rng 65 90) w)
  have Y2 : ∀ w, Hid (Calls Tryd.prog 25 #[.agg #[.int .u64 (sw (orP (rng 97 122) (rng 65 90)) 0 : Nat), .int .u64 (sw (orP (rng 97 122) (rng 65 90)) 1 : Nat), .int .u64 (sw (orP (rng 97 122) (rng 65 90)) 2 : Nat), .int .u64 (sw (orP (rng 97 122) (rng 65 90)) 3 : Nat)], .agg #[.int .u64 (sw (rng 48 57) 0 : Nat), .int .u64 (sw (rng 48 57) 1 : Nat), .int .u64 (sw (rng 48 57) 2 : Nat), .int .u64 (sw (rng 48 57) 3 : Nat)]] w fun e w' => e = .returned (SV (orP (orP (rng 97 122) (rng 65 90)) (rng 48 57))) ∧ Below w.heap.size w w') := fun w => Lib.hid (ror_any (orP (rng 97 122) (rng 65 90)) (rng 48 57) w)
  go_enter Tryd.func38, Tryd.ntmps38
  go_wp2_with fail
  have HB0 : Hid (Below (w.heap.size + 1) (w.alloc (.cells #[.int .u64 0, .int .u64 0, .int .u64 0, .int .u64 0] 39)) (w.alloc (.cells #[.int .u64 0, .int .u64 0, .int .u64 0, .int .u64 0] 39))) := Lib.hid (Below.refl _ _)
  refine (X1 _).out.mono ?_
  rintro e w1 ⟨rfl, hb1⟩
  have HB1 := Lib.hid (HB0.out.trans (hb1.mono (bsz HB0.out)))
  clear hb1
  go_wp2_with fail
  refine (X2 _).out.mono ?_
  rintro e w2 ⟨rfl, hb2⟩
  have HB2 := Lib.hid (HB1.out.trans (hb2.mono (bsz HB1.out)))
  clear hb2
  go_wp2_with fail
  refine (X3 _).out.mono ?_
  rintro e w3 ⟨rfl, hb3⟩
  have HB3 := Lib.hid (HB2.out.trans (hb3.mono (bsz HB2.out)))
  clear hb3
  go_wp2_with fail
  refine (X4 _).out.mono ?_
  rintro e w4 ⟨rfl, hb4⟩
  have HB4 := Lib.hid (HB3.out.trans (hb4.mono (bsz HB3.out)))
  clear hb4
  unfold SV
  go_wp2_with fail
  have HKS := RB.start w w4 HB4.out
  have HBW := Lib.hid ((((HB4.out.alloc (bsz HB4.out) (.cells #[.int .u64 (sw (rng 97 122) 0 : Nat), .int .u64 (sw (rng 97 122) 1 : Nat), .int .u64 (sw (rng 97 122) 2 : Nat), .int .u64 (sw (rng 97 122) 3 : Nat)] 39)).alloc (by have := HB4.out.size; simp at this; simp; omega) (.cells #[.int .u64 (sw (rng 65 90) 0 : Nat), .int .u64 (sw (rng 65 90) 1 : Nat), .int .u64 (sw (rng 65 90) 2 : Nat), .int .u64 (sw (rng 65 90) 3 : Nat)] 39)).alloc (by have := HB4.out.size; simp at this; simp; omega) (.cells #[.int .u64 (sw (rng 48 57) 0 : Nat), .int .u64 (sw (rng 48 57) 1 : Nat), .int .u64 (sw (rng 48 57) 2 : Nat), .int .u64 (sw (rng 48 57) 3 : Nat)] 39)).alloc (by have := HB4.out.size; simp at this; simp; omega) (.cells #[.int .u64 (sw (rng 33 126) 0 : Nat), .int .u64 (sw (rng 33 126) 1 : Nat), .int .u64 (sw (rng 33 126) 2 : Nat), .int .u64 (sw (rng 33 126) 3 : Nat)] 39))
  obtain ⟨V, hV⟩ : ∃ V, V = (((w4.alloc (.cells #[.int .u64 (sw (rng 97 122) 0 : Nat), .int .u64 (sw (rng 97 122) 1 : Nat), .int .u64 (sw (rng 97 122) 2 : Nat), .int .u64 (sw (rng 97 122) 3 : Nat)] 39)).alloc (.cells #[.int .u64 (sw (rng 65 90) 0 : Nat), .int .u64 (sw (rng 65 90) 1 : Nat), .int .u64 (sw (rng 65 90) 2 : Nat), .int .u64 (sw (rng 65 90) 3 : Nat)] 39)).alloc (.cells #[.int .u64 (sw (rng 48 57) 0 : Nat), .int .u64 (sw (rng 48 57) 1 : Nat), .int .u64 (sw (rng 48 57) 2 : Nat), .int .u64 (sw (rng 48 57) 3 : Nat)] 39)).alloc (.cells #[.int .u64 (sw (rng 33 126) 0 : Nat), .int .u64 (sw (rng 33 126) 1 : Nat), .int .u64 (sw (rng 33 126) 2 : Nat), .int .u64 (sw (rng 33 126) 3 : Nat)] 39) := ⟨_, rfl⟩
  rw [← hV] at HKS HBW ⊢
  clear hV
  have HY0 : Hid (RB w w4.heap.size V.drew) := Lib.hid (HKS.nxt (Below.refl _ _).drew)
  have HBV : Hid (Below (w.heap.size + 1) (w.alloc (.cells #[.int .u64 0, .int .u64 0, .int .u64 0, .int .u64 0] 39)) V.drew) := Lib.hid HBW.out.drew
  clear HKS HBW
  refine wp_region_held (S := fun X => RB w w4.heap.size X) (by kernel_rfl) ?_
  try (change wpAnyH _ _ _ _ _ _ _ _ (World.drew _))
  generalize V.drew = X0 at *
  refine wpAnyH_take (i := 0) (v := .agg #[.int .u64 (sw (rng 97 122) 0 : Nat), .int .u64 (sw (rng 97 122) 1 : Nat), .int .u64 (sw (rng 97 122) 2 : Nat), .int .u64 (sw (rng 97 122) 3 : Nat)]) rfl (by kernel_rfl) (by kernel_rfl) (by kernel_rfl) (fun _ _ _ h => h) (Or.inl ⟨by kernel_rfl, ?_⟩) HY0.out ?_
  · intro X hS; obtain ⟨_, _, hS3, hS4, hS5, hS6⟩ := hS; obtain ⟨⟨z0, z1, z2, z3⟩, _⟩ := blk4 hS3; clear hS3 hS4 hS5 hS6; go_simp
  try simp only [Act.put, List.setIfInBounds_toArray]
  refine wpAnyH_take (i := 1) (v := .agg #[.int .u64 (sw (rng 65 90) 0 : Nat), .int .u64 (sw (rng 65 90) 1 : Nat), .int .u64 (sw (rng 65 90) 2 : Nat), .int .u64 (sw (rng 65 90) 3 : Nat)]) rfl (by kernel_rfl) (by kernel_rfl) (by kernel_rfl) (fun _ _ _ h => h) (Or.inl ⟨by kernel_rfl, ?_⟩) HY0.out ?_
  · intro X hS; obtain ⟨_, _, hS3, hS4, hS5, hS6⟩ := hS; obtain ⟨⟨z0, z1, z2, z3⟩, _⟩ := blk4 hS4; clear hS3 hS4 hS5 hS6; go_simp
  try simp only [Act.put]
  refine wpAnyH_take (i := 3) (v := .agg #[.int .u64 (sw (rng 48 57) 0 : Nat), .int .u64 (sw (rng 48 57) 1 : Nat), .int .u64 (sw (rng 48 57) 2 : Nat), .int .u64 (sw (rng 48 57) 3 : Nat)]) rfl (by kernel_rfl) (by kernel_rfl) (by kernel_rfl) (fun _ _ _ h => h) (Or.inl ⟨by kernel_rfl, ?_⟩) HY0.out ?_
  · intro X hS; obtain ⟨_, _, hS3, hS4, hS5, hS6⟩ := hS; obtain ⟨⟨z0, z1, z2, z3⟩, _⟩ := blk4 hS5; clear hS3 hS4 hS5 hS6; go_simp
  try simp only [Act.put]
  have HYX0 := HY0
  have HBX0 := HBV
  refine wpAnyH_all (rs := [2, 5]) (by kernel_rfl) (by simp) ?_
  intro ii hii
  simp only [List.mem_cons, List.not_mem_nil, or_false] at hii
  rcases hii with rfl | rfl
  · skip
    refine wpOp_step (by rfl) ?_
    intro K' hK'
    go_simp
    go_at_call 25
    refine (Y1 _).out.mono ?_
    rintro e A1 ⟨rfl, hbc⟩
    have HYA1 := Lib.hid (HYX0.out.nxt hbc)
    have HBA1 := Lib.hid (HBX0.out.trans (hbc.mono (bsz HBX0.out)))
    clear hbc
    unfold SV
    refine hK' _ _ ⟨HYA1.out, ?_⟩
    clear hK'
    refine wpAnyH_all (rs := [4, 5]) (by kernel_rfl) (by simp) ?_
    intro ii hii
    simp only [List.mem_cons, List.not_mem_nil, or_false] at hii
    rcases hii with rfl | rfl
    · skip
      refine wpOp_step (by rfl) ?_
      intro K' hK'
      go_simp
      go_at_call 25
      refine (Y2 _).out.mono ?_
      rintro e A2 ⟨rfl, hbc⟩
      have HYA2 := Lib.hid (HYA1.out.nxt hbc)
      have HBA2 := Lib.hid (HBA1.out.trans (hbc.mono (bsz HBA1.out)))
      clear hbc
      unfold SV
      refine hK' _ _ ⟨HYA2.out, ?_⟩
      clear hK'
      refine wpAnyH_all (rs := [5]) (by kernel_rfl) (by simp) ?_
      intro ii hii
      rw [List.mem_singleton] at hii
      subst hii
      refine wpOp_step (by rfl) ?_
      intro K' hK'
      go_simp
      obtain ⟨A3, hV⟩ : ∃ V, V = A2.alloc (.cells #[.int .u64 0, .int .u64 0, .int .u64 0, .int .u64 0] 39) := ⟨_, rfl⟩
      rw [← hV]
      have HYA3 : Hid (RB w w4.heap.size A3) := Lib.hid (by rw [hV]; exact HYA2.out.nxt ((Below.refl _ _).alloc (Nat.le_refl _) _))
      have HBA3 : Hid (Below (w.heap.size + 1) (w.alloc (.cells #[.int .u64 0, .int .u64 0, .int .u64 0, .int .u64 0] 39)) A3) := Lib.hid (by rw [hV]; exact HBA2.out.trans (((Below.refl _ _).alloc (Nat.le_refl _) _).mono (bsz HBA2.out)))
      have HGA3 : Hid (A3.heap[A2.heap.size]? = some (.cells #[.int .u64 0, .int .u64 0, .int .u64 0, .int .u64 0] 39)) := Lib.hid (by rw [hV]; exact alloc_last4 _ _)
      have hg8 : w4.heap.size + 1 + 1 + 1 < A2.heap.size := lt_blk HYA2.out.2.2.2.2.2
      have hg9 : w.heap.size + 1 ≤ w4.heap.size := HYA2.out.2.1
      clear hV
      refine hK' _ _ ⟨HYA3.out, ?_⟩
      clear hK'
      obtain ⟨⟨t0, t1, t2, t3⟩, ⟨u0, u1, u2, u3⟩, uz⟩ := blk4f HGA3.out
      refine wpAnyH_all (rs := [6]) (by kernel_rfl) (by simp) ?_
      intro ii hii
      rw [List.mem_singleton] at hii
      subst hii
      refine wpOp_step (by rfl) ?_
      intro K' hK'
      go_simp
      obtain ⟨A3s, hV⟩ : ∃ V, V = (((A3.setCell ⟨A2.heap.size, 0, none⟩ (.int .u64 (sw (orP (orP (rng 97 122) (rng 65 90)) (rng 48 57)) 0 : Nat))).setCell ⟨A2.heap.size, 1, none⟩ (.int .u64 (sw (orP (orP (rng 97 122) (rng 65 90)) (rng 48 57)) 1 : Nat))).setCell ⟨A2.heap.size, 2, none⟩ (.int .u64 (sw (orP (orP (rng 97 122) (rng 65 90)) (rng 48 57)) 2 : Nat))).setCell ⟨A2.heap.size, 3, none⟩ (.int .u64 (sw (orP (orP (rng 97 122) (rng 65 90)) (rng 48 57)) 3 : Nat)) := ⟨_, rfl⟩
      rw [← hV]
      have HYA3s : Hid (RB w w4.heap.size A3s) := Lib.hid (by rw [hV]; exact (((HYA3.out.set _ 0 _ (Or.inr hg8)).set _ 1 _ (Or.inr hg8)).set _ 2 _ (Or.inr hg8)).set _ 3 _ (Or.inr hg8))
      have HBA3s : Hid (Below (w.heap.size + 1) (w.alloc (.cells #[.int .u64 0, .int .u64 0, .int .u64 0, .int .u64 0] 39)) A3s) := Lib.hid (by rw [hV]; exact (((HBA3.out.setCell (by simp; omega) _).setCell (by simp; omega) _).setCell (by simp; omega) _).setCell (by simp; omega) _)
      have HRA3s : Hid (Row4 A3s A2.heap.size 0 (orP (orP (rng 97 122) (rng 65 90)) (rng 48 57))) := Lib.hid (by rw [hV]; exact row4_put (p := noP) (orP (orP (rng 97 122) (rng 65 90)) (rng 48 57)) (row_no t0 t1 t2 t3))
      have hgz : A2.heap.size < A3s.heap.size := by rw [hV]; simpa using uz
      clear hV t0 t1 t2 t3 u0 u1 u2 u3 uz
      refine hK' _ _ ⟨HYA3s.out, ?_⟩
      clear hK'
      refine wpAnyH_done (by kernel_rfl) ?_ _
      obtain ⟨hF0, _, hF1, hF2, hF3, hF4⟩ := HYA3s.out
      obtain ⟨⟨a0, a1, a2, a3⟩, _⟩ := blk4 hF1
      obtain ⟨⟨b0, b1, b2, b3⟩, _⟩ := blk4 hF2
      obtain ⟨⟨c0, c1, c2, c3⟩, _⟩ := blk4 hF3
      obtain ⟨⟨d0, d1, d2, d3⟩, _⟩ := blk4 hF4
      clear hF0 hF1 hF2 hF3 hF4
      obtain ⟨e0, e1', e2', e3'⟩ := HRA3s.out
      have e1 : A3s.cell? ⟨A2.heap.size, 1, none⟩ = some (.int .u64 (sw (orP (orP (rng 97 122) (rng 65 90)) (rng 48 57)) 1 : Nat)) := e1'
      have e2 : A3s.cell? ⟨A2.heap.size, 2, none⟩ = some (.int .u64 (sw (orP (orP (rng 97 122) (rng 65 90)) (rng 48 57)) 2 : Nat)) := e2'
      have e3 : A3s.cell? ⟨A2.heap.size, 3, none⟩ = some (.int .u64 (sw (orP (orP (rng 97 122) (rng 65 90)) (rng 48 57)) 3 : Nat)) := e3'
      clear e1' e2' e3'
      obtain ⟨r0, r1, r2, r3, s0, s1, s2, s3, rz⟩ := res_facts HBA3s.out (Nat.lt_succ_self _)
      go_wp2
      exact bodyPost_ret (by simp [results, Tryd.results38, go_sem, r0, r1, r2, r3]; rfl) rfl ⟨rfl, res_below HBA3s.out _ _ _ _⟩
    · skip
      refine wpOp_step (by rfl) ?_
      intro K' hK'
      go_simp
      obtain ⟨C2, hV⟩ : ∃ V, V = A1.alloc (.cells #[.int .u64 0, .int .u64 0, .int .u64 0, .int .u64 0] 39) := ⟨_, rfl⟩
      rw [← hV]
      have HYC2 : Hid (RB w w4.heap.size C2) := Lib.hid (by rw [hV]; exact HYA1.out.nxt ((Below.refl _ _).alloc (Nat.le_refl _) _))
      have HBC2 : Hid (Below (w.heap.size + 1) (w.alloc (.cells #[.int .u64 0, .int .u64 0, .int .u64 0, .int .u64 0] 39)) C2) := Lib.hid (by rw [hV]; exact HBA1.out.trans (((Below.refl _ _).alloc (Nat.le_refl _) _).mono (bsz HBA1.out)))
      have HGC2 : Hid (C2.heap[A1.heap.size]? = some (.cells #[.int .u64 0, .int .u64 0, .int .u64 0, .int .u64 0] 39)) := Lib.hid (by rw [hV]; exact alloc_last4 _ _)
      have hg8 : w4.heap.size + 1 + 1 + 1 < A1.heap.size := lt_blk HYA1.out.2.2.2.2.2
      have hg9 : w.heap.size + 1 ≤ w4.heap.size := HYA1.out.2.1
      clear hV
      refine hK' _ _ ⟨HYC2.out, ?_⟩
      clear hK'
      refine wpAnyH_all (rs := [4]) (by kernel_rfl) (by simp) ?_
      intro ii hii
      rw [List.mem_singleton] at hii
      subst hii
      refine wpOp_step (by rfl) ?_
      intro K' hK'
      go_simp
      go_at_call 25
      refine (Y2 _).out.mono ?_
      rintro e C3 ⟨rfl, hbc⟩
      have HYC3 := Lib.hid (HYC2.out.nxt hbc)
      have HBC3 := Lib.hid (HBC2.out.trans (hbc.mono (bsz HBC2.out)))
      have HGC3 := Lib.hid ((hbc.block _ (lt_blk HGC2.out)).trans HGC2.out)
      clear hbc
      unfold SV
      refine hK' _ _ ⟨HYC3.out, ?_⟩
      clear hK'
      obtain ⟨⟨t0, t1, t2, t3⟩, ⟨u0, u1, u2, u3⟩, uz⟩ := blk4f HGC3.out
      refine wpAnyH_all (rs := [6]) (by kernel_rfl) (by simp) ?_
      intro ii hii
      rw [List.mem_singleton] at hii
      subst hii
      refine wpOp_step (by rfl) ?_
      intro K' hK'
      go_simp
      obtain ⟨C3s, hV⟩ : ∃ V, V = (((C3.setCell ⟨A1.heap.size, 0, none⟩ (.int .u64 (sw (orP (orP (rng 97 122) (rng 65 90)) (rng 48 57)) 0 : Nat))).setCell ⟨A1.heap.size, 1, none⟩ (.int .u64 (sw (orP (orP (rng 97 122) (rng 65 90)) (rng 48 57)) 1 : Nat))).setCell ⟨A1.heap.size, 2, none⟩ (.int .u64 (sw (orP (orP (rng 97 122) (rng 65 90)) (rng 48 57)) 2 : Nat))).setCell ⟨A1.heap.size, 3, none⟩ (.int .u64 (sw (orP (orP (rng 97 122) (rng 65 90)) (rng 48 57)) 3 : Nat)) := ⟨_, rfl⟩
      rw [← hV]
      have HYC3s : Hid (RB w w4.heap.size C3s) := Lib.hid (by rw [hV]; exact (((HYC3.out.set _ 0 _ (Or.inr hg8)).set _ 1 _ (Or.inr hg8)).set _ 2 _ (Or.inr hg8)).set _ 3 _ (Or.inr hg8))
      have HBC3s : Hid (Below (w.heap.size + 1) (w.alloc (.cells #[.int .u64 0, .int .u64 0, .int .u64 0, .int .u64 0] 39)) C3s) := Lib.hid (by rw [hV]; exact (((HBC3.out.setCell (by simp; omega) _).setCell (by simp; omega) _).setCell (by simp; omega) _).setCell (by simp; omega) _)
      have HRC3s : Hid (Row4 C3s A1.heap.size 0 (orP (orP (rng 97 122) (rng 65 90)) (rng 48 57))) := Lib.hid (by rw [hV]; exact row4_put (p := noP) (orP (orP (rng 97 122) (rng 65 90)) (rng 48 57)) (row_no t0 t1 t2 t3))
      have hgz : A1.heap.size < C3s.heap.size := by rw [hV]; simpa using uz
      clear hV t0 t1 t2 t3 u0 u1 u2 u3 uz
      refine hK' _ _ ⟨HYC3s.out, ?_⟩
      clear hK'
      refine wpAnyH_done (by kernel_rfl) ?_ _
      obtain ⟨hF0, _, hF1, hF2, hF3, hF4⟩ := HYC3s.out
      obtain ⟨⟨a0, a1, a2, a3⟩, _⟩ := blk4 hF1
      obtain ⟨⟨b0, b1, b2, b3⟩, _⟩ := blk4 hF2
      obtain ⟨⟨c0, c1, c2, c3⟩, _⟩ := blk4 hF3
      obtain ⟨⟨d0, d1, d2, d3⟩, _⟩ := blk4 hF4
      clear hF0 hF1 hF2 hF3 hF4
      obtain ⟨e0, e1', e2', e3'⟩ := HRC3s.out
      have e1 : C3s.cell? ⟨A1.heap.size, 1, none⟩ = some (.int .u64 (sw (orP (orP (rng 97 122) (rng 65 90)) (rng 48 57)) 1 : Nat)) := e1'
      have e2 : C3s.cell? ⟨A1.heap.size, 2, none⟩ = some (.int .u64 (sw (orP (orP (rng 97 122) (rng 65 90)) (rng 48 57)) 2 : Nat)) := e2'
      have e3 : C3s.cell? ⟨A1.heap.size, 3, none⟩ = some (.int .u64 (sw (orP (orP (rng 97 122) (rng 65 90)) (rng 48 57)) 3 : Nat)) := e3'
      clear e1' e2' e3'
      obtain ⟨r0, r1, r2, r3, s0, s1, s2, s3, rz⟩ := res_facts HBC3s.out (Nat.lt_succ_self _)
      go_wp2
      exact bodyPost_ret (by simp [results, Tryd.results38, go_sem, r0, r1, r2, r3]; rfl) rfl ⟨rfl, res_below HBC3s.out _ _ _ _⟩
  · skip
    refine wpOp_step (by rfl) ?_
    intro K' hK'
    go_simp
    obtain ⟨D1, hV⟩ : ∃ V, V = X0.alloc (.cells #[.int .u64 0, .int .u64 0, .int .u64 0, .int .u64 0] 39) := ⟨_, rfl⟩
    rw [← hV]
    have HYD1 : Hid (RB w w4.heap.size D1) := Lib.hid (by rw [hV]; exact HYX0.out.nxt ((Below.refl _ _).alloc (Nat.le_refl _) _))
    have HBD1 : Hid (Below (w.heap.size + 1) (w.alloc (.cells #[.int .u64 0, .int .u64 0, .int .u64 0, .int .u64 0] 39)) D1) := Lib.hid (by rw [hV]; exact HBX0.out.trans (((Below.refl _ _).alloc (Nat.le_refl _) _).mono (bsz HBX0.out)))
    have HGD1 : Hid (D1.heap[X0.heap.size]? = some (.cells #[.int .u64 0, .int .u64 0, .int .u64 0, .int .u64 0] 39)) := Lib.hid (by rw [hV]; exact alloc_last4 _ _)
    have hg8 : w4.heap.size + 1 + 1 + 1 < X0.heap.size := lt_blk HYX0.out.2.2.2.2.2
    have hg9 : w.heap.size + 1 ≤ w4.heap.size := HYX0.out.2.1
    clear hV
    refine hK' _ _ ⟨HYD1.out, ?_⟩
    clear hK'
    refine wpAnyH_all (rs := [2]) (by kernel_rfl) (by simp) ?_
    intro ii hii
    rw [List.mem_singleton] at hii
    subst hii
    refine wpOp_step (by rfl) ?_
    intro K' hK'
    go_simp
    go_at_call 25
    refine (Y1 _).out.mono ?_
    rintro e D2 ⟨rfl, hbc⟩
    have HYD2 := Lib.hid (HYD1.out.nxt hbc)
    have HBD2 := Lib.hid (HBD1.out.trans (hbc.mono (bsz HBD1.out)))
    have HGD2 := Lib.hid ((hbc.block _ (lt_blk HGD1.out)).trans HGD1.out)
    clear hbc
    unfold SV
    refine hK' _ _ ⟨HYD2.out, ?_⟩
    clear hK'
    refine wpAnyH_all (rs := [4]) (by kernel_rfl) (by simp) ?_
    intro ii hii
    rw [List.mem_singleton] at hii
    subst hii
    refine wpOp_step (by rfl) ?_
    intro K' hK'
    go_simp
    go_at_call 25
    refine (Y2 _).out.mono ?_
    rintro e D3 ⟨rfl, hbc⟩
    have HYD3 := Lib.hid (HYD2.out.nxt hbc)
    have HBD3 := Lib.hid (HBD2.out.trans (hbc.mono (bsz HBD2.out)))
    have HGD3 := Lib.hid ((hbc.block _ (lt_blk HGD2.out)).trans HGD2.out)
    clear hbc
    unfold SV
    refine hK' _ _ ⟨HYD3.out, ?_⟩
    clear hK'
    obtain ⟨⟨t0, t1, t2, t3⟩, ⟨u0, u1, u2, u3⟩, uz⟩ := blk4f HGD3.out
    refine wpAnyH_all (rs := [6]) (by kernel_rfl) (by simp) ?_
    intro ii hii
    rw [List.mem_singleton] at hii
    subst hii
    refine wpOp_step (by rfl) ?_
    intro K' hK'
    go_simp
    obtain ⟨D3s, hV⟩ : ∃ V, V = (((D3.setCell ⟨X0.heap.size, 0, none⟩ (.int .u64 (sw (orP (orP (rng 97 122) (rng 65 90)) (rng 48 57)) 0 : Nat))).setCell ⟨X0.heap.size, 1, none⟩ (.int .u64 (sw (orP (orP (rng 97 122) (rng 65 90)) (rng 48 57)) 1 : Nat))).setCell ⟨X0.heap.size, 2, none⟩ (.int .u64 (sw (orP (orP (rng 97 122) (rng 65 90)) (rng 48 57)) 2 : Nat))).setCell ⟨X0.heap.size, 3, none⟩ (.int .u64 (sw (orP (orP (rng 97 122) (rng 65 90)) (rng 48 57)) 3 : Nat)) := ⟨_, rfl⟩
    rw [← hV]
    have HYD3s : Hid (RB w w4.heap.size D3s) := Lib.hid (by rw [hV]; exact (((HYD3.out.set _ 0 _ (Or.inr hg8)).set _ 1 _ (Or.inr hg8)).set _ 2 _ (Or.inr hg8)).set _ 3 _ (Or.inr hg8))
    have HBD3s : Hid (Below (w.heap.size + 1) (w.alloc (.cells #[.int .u64 0, .int .u64 0, .int .u64 0, .int .u64 0] 39)) D3s) := Lib.hid (by rw [hV]; exact (((HBD3.out.setCell (by simp; omega) _).setCell (by simp; omega) _).setCell (by simp; omega) _).setCell (by simp; omega) _)
    have HRD3s : Hid (Row4 D3s X0.heap.size 0 (orP (orP (rng 97 122) (rng 65 90)) (rng 48 57))) := Lib.hid (by rw [hV]; exact row4_put (p := noP) (orP (orP (rng 97 122) (rng 65 90)) (rng 48 57)) (row_no t0 t1 t2 t3))
    have hgz : X0.heap.size < D3s.heap.size := by rw [hV]; simpa using uz
    clear hV t0 t1 t2 t3 u0 u1 u2 u3 uz
    refine hK' _ _ ⟨HYD3s.out, ?_⟩
    clear hK'
    refine wpAnyH_done (by kernel_rfl) ?_ _
    obtain ⟨hF0, _, hF1, hF2, hF3, hF4⟩ := HYD3s.out
    obtain ⟨⟨a0, a1, a2, a3⟩, _⟩ := blk4 hF1
    obtain ⟨⟨b0, b1, b2, b3⟩, _⟩ := blk4 hF2
    obtain ⟨⟨c0, c1, c2, c3⟩, _⟩ := blk4 hF3
    obtain ⟨⟨d0, d1, d2, d3⟩, _⟩ := blk4 hF4
    clear hF0 hF1 hF2 hF3 hF4
    obtain ⟨e0, e1', e2', e3'⟩ := HRD3s.out
    have e1 : D3s.cell? ⟨X0.heap.size, 1, none⟩ = some (.int .u64 (sw (orP (orP (rng 97 122) (rng 65 90)) (rng 48 57)) 1 : Nat)) := e1'
    have e2 : D3s.cell? ⟨X0.heap.size, 2, none⟩ = some (.int .u64 (sw (orP (orP (rng 97 122) (rng 65 90)) (rng 48 57)) 2 : Nat)) := e2'
    have e3 : D3s.cell? ⟨X0.heap.size, 3, none⟩ = some (.int .u64 (sw (orP (orP (rng 97 122) (rng 65 90)) (rng 48 57)) 3 : Nat)) := e3'
    clear e1' e2' e3'
    obtain ⟨r0, r1, r2, r3, s0, s1, s2, s3, rz⟩ := res_facts HBD3s.out (Nat.lt_succ_self _)
    go_wp2
    exact bodyPost_ret (by simp [results, Tryd.results38, go_sem, r0, r1, r2, r3]; rfl) rfl ⟨rfl, res_below HBD3s.out _ _ _ _⟩

set_option maxRecDepth 100000 in
set_option maxHeartbeats 16000000 in
theorem rclass_digit (w : World) :
    Calls Tryd.prog 38 #[.string ⟨#[100, 105, 103, 105, 116]⟩] w fun e w' => e = .returned (.tuple #[SV (rng 48 57), .bool true]) ∧ Below w.heap.size w w' := by
  have X1 : ∀ w, Hid (Calls Tryd.prog 26 #[.int .u8 97, .int .u8 122] w fun e w' => e = .returned (SV (rng 97 122)) ∧ Below w.heap.size w w') := fun w => Lib.hid (rrange_any 97 122 (by omega) (by omega) w)
  have X2 : ∀ w, Hid (Calls Tryd.prog 26 #[.int .u8 65, .int .u8 90] w fun e w' => e = .returned (SV (rng 65 90)) ∧ Below w.heap.size w w') := fun w => Lib.hid (rrange_any 65 90 (by omega) (by omega) w)
  have X3 : ∀ w, Hid (Calls Tryd.prog 26 #[.int .u8 48, .int .u8 57] w fun e w' => e = .returned (SV (rng 48 57)) ∧ Below w.heap.size w w') := fun w => Lib.hid (rrange_any 48 57 (by omega) (by omega) w)
  have X4 : ∀ w, Hid (Calls Tryd.prog 26 #[.int .u8 33, .int .u8 126] w fun e w' => e = .returned (SV (rng 33 126)) ∧ Below w.heap.size w w') := fun w => Lib.hid (rrange_any 33 126 (by omega) (by omega) w)
  have Y1 : ∀ w, Hid (Calls Tryd.prog 25 #[.agg #[.int .u64 (sw (rng 97 122) 0 : Nat), .int .u64 (sw (rng 97 122) 1 : Nat), .int .u64 (sw (rng 97 122) 2 : Nat), .int .u64 (sw (rng 97 122) 3 : Nat)], .agg #[.int .u64 (sw (rng 65 90) 0 : Nat), .int .u64 (sw (rng 65 90) 1 : Nat), .int .u64 (sw (rng 65 90) 2 : Nat), .int .u64 (sw (rng 65 90) 3 : Nat)]] w fun e w' => e = .returned (SV (orP (rng 97 122) (rng 65 90))) ∧ Below w.heap.size w w') := fun w => Lib.hid (ror_any (rng 97 122) (rng 65 90) w)
  have Y2 : ∀ w, Hid (Calls Tryd.prog 25 #[.agg #[.int .u64 (sw (orP (rng 97 122) (rng 65 90)) 0 : Nat), .int .u64 (sw (orP (rng 97 122) (rng 65 90)) 1 : Nat), .int .u64 (sw (orP (rng 97 122) (rng 65 90)) 2 : Nat), .int .u64 (sw (orP (rng 97 122) (rng 65 90)) 3 : Nat)], .agg #[.int .u64 (sw (rng 48 57) 0 : Nat), .int .u64 (sw (rng 48 57) 1 : Nat), .int .u64 (sw (rng 48 57) 2 : Nat), .int .u64 (sw (rng 48 57) 3 : Nat)]] w fun e w' => e = .returned (SV (orP (orP (rng 97 122) (rng 65 90)) (rng 48 57))) ∧ Below w.heap.size w w') := fun w => Lib.hid (ror_any (orP (rng 97 122) (rng 65 90)) (rng 48 57) w)
  go_enter Tryd.func38, Tryd.ntmps38
  go_wp2_with fail
  have HB0 : Hid (Below (w.heap.size + 1) (w.alloc (.cells #[.int .u64 0, .int .u64 0, .int .u64 0, .int .u64 0] 39)) (w.alloc (.cells #[.int .u64 0, .int .u64 0, .int .u64 0, .int .u64 0] 39))) := Lib.hid (Below.refl _ _)
  refine (X1 _).out.mono ?_
  rintro e w1 ⟨rfl, hb1⟩
  have HB1 := Lib.hid (HB0.out.trans (hb1.mono (bsz HB0.out)))
  clear hb1
  go_wp2_with fail
  refine (X2 _).out.mono ?_
  rintro e w2 ⟨rfl, hb2⟩
  have HB2 := Lib.hid (HB1.out.trans (hb2.mono (bsz HB1.out)))
  clear hb2
  go_wp2_with fail
  refine (X3 _).out.mono ?_
  rintro e w3 ⟨rfl, hb3⟩
  have HB3 := Lib.hid (HB2.out.trans (hb3.mono (bsz HB2.out)))
  clear hb3
  go_wp2_with fail
  refine (X4 _).out.mono ?_
  rintro e w4 ⟨rfl, hb4⟩
  have HB4 := Lib.hid (HB3.out.trans (hb4.mono (bsz HB3.out)))
  clear hb4
  unfold SV
  go_wp2_with fail
  have HKS := RB.start w w4 HB4.out
  have HBW := Lib.hid ((((HB4.out.alloc (bsz HB4.out) (.cells #[.int .u64 (sw (rng 97 122) 0 : Nat), .int .u64 (sw (rng 97 122) 1 : Nat), .int .u64 (sw (rng 97 122) 2 : Nat), .int .u64 (sw (rng 97 122) 3 : Nat)] 39)).alloc (by have := HB4.out.size; simp at this; simp; omega) (.cells #[.int .u64 (sw (rng 65 90) 0 : Nat), .int .u64 (sw (rng 65 90) 1 : Nat), .int .u64 (sw (rng 65 90) 2 : Nat), .int .u64 (sw (rng 65 90) 3 : Nat)] 39)).alloc (by have := HB4.out.size; simp at this; simp; omega) (.cells #[.int .u64 (sw (rng 48 57) 0 : Nat), .int .u64 (sw (rng 48 57) 1 : Nat), .int .u64 (sw (rng 48 57) 2 : Nat), .int .u64 (sw (rng 48 57) 3 : Nat)] 39)).alloc (by have := HB4.out.size; simp at this; simp; omega) (.cells #[.int .u64 (sw (rng 33 126) 0 : Nat), .int .u64 (sw (rng 33 126) 1 : Nat), .int .u64 (sw (rng 33 126) 2 : Nat), .int .u64 (sw (rng 33 126) 3 : Nat)] 39))
  obtain ⟨V, hV⟩ : ∃ V, V = (((w4.alloc (.cells #[.int .u64 (sw (rng 97 122) 0 : Nat), .int .u64 (sw (rng 97 122) 1 : Nat), .int .u64 (sw (rng 97 122) 2 : Nat), .int .u64 (sw (rng 97 122) 3 : Nat)] 39)).alloc (.cells #[.int .u64 (sw (rng 65 90) 0 : Nat), .int .u64 (sw (rng 65 90) 1 : Nat), .int .u64 (sw (rng 65 90) 2 : Nat), .int .u64 (sw (rng 65 90) 3 : Nat)] 39)).alloc (.cells #[.int .u64 (sw (rng 48 57) 0 : Nat), .int .u64 (sw (rng 48 57) 1 : Nat), .int .u64 (sw (rng 48 57) 2 : Nat), .int .u64 (sw (rng 48 57) 3 : Nat)] 39)).alloc (.cells #[.int .u64 (sw (rng 33 126) 0 : Nat), .int .u64 (sw (rng 33 126) 1 : Nat), .int .u64 (sw (rng 33 126) 2 : Nat), .int .u64 (sw (rng 33 126) 3 : Nat)] 39) := ⟨_, rfl⟩
  rw [← hV] at HKS HBW ⊢
  clear hV
  have HY0 : Hid (RB w w4.heap.size V.drew) := Lib.hid (HKS.nxt (Below.refl _ _).drew)
  have HBV : Hid (Below (w.heap.size + 1) (w.alloc (.cells #[.int .u64 0, .int .u64 0, .int .u64 0, .int .u64 0] 39)) V.drew) := Lib.hid HBW.out.drew
  clear HKS HBW
  refine wp_region_held (S := fun X => RB w w4.heap.size X) (by kernel_rfl) ?_
  try (change wpAnyH _ _ _ _ _ _ _ _ (World.drew _))
  generalize V.drew = X0 at *
  refine wpAnyH_take (i := 0) (v := .agg #[.int .u64 (sw (rng 97 122) 0 : Nat), .int .u64 (sw (rng 97 122) 1 : Nat), .int .u64 (sw (rng 97 122) 2 : Nat), .int .u64 (sw (rng 97 122) 3 : Nat)]) rfl (by kernel_rfl) (by kernel_rfl) (by kernel_rfl) (fun _ _ _ h => h) (Or.inl ⟨by kernel_rfl, ?_⟩) HY0.out ?_
  · intro X hS; obtain ⟨_, _, hS3, hS4, hS5, hS6⟩ := hS; obtain ⟨⟨z0, z1, z2, z3⟩, _⟩ := blk4 hS3; clear hS3 hS4 hS5 hS6; go_simp
  try simp only [Act.put, List.setIfInBounds_toArray]
  refine wpAnyH_take (i := 1) (v := .agg #[.int .u64 (sw (rng 65 90) 0 : Nat), .int .u64 (sw (rng 65 90) 1 : Nat), .int .u64 (sw (rng 65 90) 2 : Nat), .int .u64 (sw (rng 65 90) 3 : Nat)]) rfl (by kernel_rfl) (by kernel_rfl) (by kernel_rfl) (fun _ _ _ h => h) (Or.inl ⟨by kernel_rfl, ?_⟩) HY0.out ?_
  · intro X hS; obtain ⟨_, _, hS3, hS4, hS5, hS6⟩ := hS; obtain ⟨⟨z0, z1, z2, z3⟩, _⟩ := blk4 hS4; clear hS3 hS4 hS5 hS6; go_simp
  try simp only [Act.put]
  refine wpAnyH_take (i := 3) (v := .agg #[.int .u64 (sw (rng 48 57) 0 : Nat), .int .u64 (sw (rng 48 57) 1 : Nat), .int .u64 (sw (rng 48 57) 2 : Nat), .int .u64 (sw (rng 48 57) 3 : Nat)]) rfl (by kernel_rfl) (by kernel_rfl) (by kernel_rfl) (fun _ _ _ h => h) (Or.inl ⟨by kernel_rfl, ?_⟩) HY0.out ?_
  · intro X hS; obtain ⟨_, _, hS3, hS4, hS5, hS6⟩ := hS; obtain ⟨⟨z0, z1, z2, z3⟩, _⟩ := blk4 hS5; clear hS3 hS4 hS5 hS6; go_simp
  try simp only [Act.put]
  have HYX0 := HY0
  have HBX0 := HBV
  refine wpAnyH_all (rs := [2, 5]) (by kernel_rfl) (by simp) ?_
  intro ii hii
  simp only [List.mem_cons, List.not_mem_nil, or_false] at hii
  rcases hii with rfl | rfl
  · skip
    refine wpOp_step (by rfl) ?_
    intro K' hK'
    go_simp
    go_at_call 25
    refine (Y1 _).out.mono ?_
    rintro e A1 ⟨rfl, hbc⟩
    have HYA1 := Lib.hid (HYX0.out.nxt hbc)
    have HBA1 := Lib.hid (HBX0.out.trans (hbc.mono (bsz HBX0.out)))
    clear hbc
    unfold SV
    refine hK' _ _ ⟨HYA1.out, ?_⟩
    clear hK'
    refine wpAnyH_all (rs := [4, 5]) (by kernel_rfl) (by simp) ?_
    intro ii hii
    simp only [List.mem_cons, List.not_mem_nil, or_false] at hii
    rcases hii with rfl | rfl
    · skip
      refine wpOp_step (by rfl) ?_
      intro K' hK'
      go_simp
      go_at_call 25
      refine (Y2 _).out.mono ?_
      rintro e A2 ⟨rfl, hbc⟩
      have HYA2 := Lib.hid (HYA1.out.nxt hbc)
      have HBA2 := Lib.hid (HBA1.out.trans (hbc.mono (bsz HBA1.out)))
      clear hbc
      unfold SV
      refine hK' _ _ ⟨HYA2.out, ?_⟩
      clear hK'
      refine wpAnyH_all (rs := [5]) (by kernel_rfl) (by simp) ?_
      intro ii hii
      rw [List.mem_singleton] at hii
      subst hii
      refine wpOp_step (by rfl) ?_
      intro K' hK'
      go_simp
      obtain ⟨A3, hV⟩ : ∃ V, V = A2.alloc (.cells #[.int .u64 0, .int .u64 0, .int .u64 0, .int .u64 0] 39) := ⟨_, rfl⟩
      rw [← hV]
      have HYA3 : Hid (RB w w4.heap.size A3) := Lib.hid (by rw [hV]; exact HYA2.out.nxt ((Below.refl _ _).alloc (Nat.le_refl _) _))
      have HBA3 : Hid (Below (w.heap.size + 1) (w.alloc (.cells #[.int .u64 0, .int .u64 0, .int .u64 0, .int .u64 0] 39)) A3) := Lib.hid (by rw [hV]; exact HBA2.out.trans (((Below.refl _ _).alloc (Nat.le_refl _) _).mono (bsz HBA2.out)))
      have HGA3 : Hid (A3.heap[A2.heap.size]? = some (.cells #[.int .u64 0, .int .u64 0, .int .u64 0, .int .u64 0] 39)) := Lib.hid (by rw [hV]; exact alloc_last4 _ _)
      have hg8 : w4.heap.size + 1 + 1 + 1 < A2.heap.size := lt_blk HYA2.out.2.2.2.2.2
      have hg9 : w.heap.size + 1 ≤ w4.heap.size := HYA2.out.2.1
      clear hV
      refine hK' _ _ ⟨HYA3.out, ?_⟩
      clear hK'
      obtain ⟨⟨t0, t1, t2, t3⟩, ⟨u0, u1, u2, u3⟩, uz⟩ := blk4f HGA3.out
      refine wpAnyH_all (rs := [6]) (by kernel_rfl) (by simp) ?_
      intro ii hii
      rw [List.mem_singleton] at hii
      subst hii
      refine wpOp_step (by rfl) ?_
      intro K' hK'
      go_simp
      obtain ⟨A3s, hV⟩ : ∃ V, V = (((A3.setCell ⟨A2.heap.size, 0, none⟩ (.int .u64 (sw (orP (orP (rng 97 122) (rng 65 90)) (rng 48 57)) 0 : Nat))).setCell ⟨A2.heap.size, 1, none⟩ (.int .u64 (sw (orP (orP (rng 97 122) (rng 65 90)) (rng 48 57)) 1 : Nat))).setCell ⟨A2.heap.size, 2, none⟩ (.int .u64 (sw (orP (orP (rng 97 122) (rng 65 90)) (rng 48 57)) 2 : Nat))).setCell ⟨A2.heap.size, 3, none⟩ (.int .u64 (sw (orP (orP (rng 97 122) (rng 65 90)) (rng 48 57)) 3 : Nat)) := ⟨_, rfl⟩
      rw [← hV]
      have HYA3s : Hid (RB w w4.heap.size A3s) := Lib.hid (by rw [hV]; exact (((HYA3.out.set _ 0 _ (Or.inr hg8)).set _ 1 _ (Or.inr hg8)).set _ 2 _ (Or.inr hg8)).set _ 3 _ (Or.inr hg8))
      have HBA3s : Hid (Below (w.heap.size + 1) (w.alloc (.cells #[.int .u64 0, .int .u64 0, .int .u64 0, .int .u64 0] 39)) A3s) := Lib.hid (by rw [hV]; exact (((HBA3.out.setCell (by simp; omega) _).setCell (by simp; omega) _).setCell (by simp; omega) _).setCell (by simp; omega) _)
      have HRA3s : Hid (Row4 A3s A2.heap.size 0 (orP (orP (rng 97 122) (rng 65 90)) (rng 48 57))) := Lib.hid (by rw [hV]; exact row4_put (p := noP) (orP (orP (rng 97 122) (rng 65 90)) (rng 48 57)) (row_no t0 t1 t2 t3))
      have hgz : A2.heap.size < A3s.heap.size := by rw [hV]; simpa using uz
      clear hV t0 t1 t2 t3 u0 u1 u2 u3 uz
      refine hK' _ _ ⟨HYA3s.out, ?_⟩
      clear hK'
      refine wpAnyH_done (by kernel_rfl) ?_ _
      obtain ⟨hF0, _, hF1, hF2, hF3, hF4⟩ := HYA3s.out
      obtain ⟨⟨a0, a1, a2, a3⟩, _⟩ := blk4 hF1
      obtain ⟨⟨b0, b1, b2, b3⟩, _⟩ := blk4 hF2
      obtain ⟨⟨c0, c1, c2, c3⟩, _⟩ := blk4 hF3
      obtain ⟨⟨d0, d1, d2, d3⟩, _⟩ := blk4 hF4
      clear hF0 hF1 hF2 hF3 hF4
      obtain ⟨e0, e1', e2', e3'⟩ := HRA3s.out
      have e1 : A3s.cell? ⟨A2.heap.size, 1, none⟩ = some (.int .u64 (sw (orP (orP (rng 97 122) (rng 65 90)) (rng 48 57)) 1 : Nat)) := e1'
      have e2 : A3s.cell? ⟨A2.heap.size, 2, none⟩ = some (.int .u64 (sw (orP (orP (rng 97 122) (rng 65 90)) (rng 48 57)) 2 : Nat)) := e2'
      have e3 : A3s.cell? ⟨A2.heap.size, 3, none⟩ = some (.int .u64 (sw (orP (orP (rng 97 122) (rng 65 90)) (rng 48 57)) 3 : Nat)) := e3'
      clear e1' e2' e3'
      obtain ⟨r0, r1, r2, r3, s0, s1, s2, s3, rz⟩ := res_facts HBA3s.out (Nat.lt_succ_self _)
      go_wp2
      exact bodyPost_ret (by simp [results, Tryd.results38, go_sem, r0, r1, r2, r3]; rfl) rfl ⟨rfl, res_below HBA3s.out _ _ _ _⟩
    · skip
      refine wpOp_step (by rfl) ?_
      intro K' hK'
      go_simp
      obtain ⟨C2, hV⟩ : ∃ V, V = A1.alloc (.cells #[.int .u64 0, .int .u64 0, .int .u64 0, .int .u64 0] 39) := ⟨_, rfl⟩
      rw [← hV]
      have HYC2 : Hid (RB w w4.heap.size C2) := Lib.hid (by rw [hV]; exact HYA1.out.nxt ((Below.refl _ _).alloc (Nat.le_refl _) _))
      have HBC2 : Hid (Below (w.heap.size + 1) (w.alloc (.cells #[.int .u64 0, .int .u64 0, .int .u64 0, .int .u64 0] 39)) C2) := Lib.hid (by rw [hV]; exact HBA1.out.trans (((Below.refl _ _).alloc (Nat.le_refl _) _).mono (bsz HBA1.out)))
      have HGC2 : Hid (C2.heap[A1.heap.size]? = some (.cells #[.int .u64 0, .int .u64 0, .int .u64 0, .int .u64 0] 39)) := Lib.hid (by rw [hV]; exact alloc_last4 _ _)
      have hg8 : w4.heap.size + 1 + 1 + 1 < A1.heap.size := lt_blk HYA1.out.2.2.2.2.2
      have hg9 : w.heap.size + 1 ≤ w4.heap.size := HYA1.out.2.1
      clear hV
      refine hK' _ _ ⟨HYC2.out, ?_⟩
      clear hK'
      refine wpAnyH_all (rs := [4]) (by kernel_rfl) (by simp) ?_
      intro ii hii
      rw [List.mem_singleton] at hii
      subst hii
      refine wpOp_step (by rfl) ?_
      intro K' hK'
      go_simp
      go_at_call 25
      refine (Y2 _).out.mono ?_
      rintro e C3 ⟨rfl, hbc⟩
      have HYC3 := Lib.hid (HYC2.out.nxt hbc)
      have HBC3 := Lib.hid (HBC2.out.trans (hbc.mono (bsz HBC2.out)))
      have HGC3 := Lib.hid ((hbc.block _ (lt_blk HGC2.out)).trans HGC2.out)
      clear hbc
      unfold SV
      refine hK' _ _ ⟨HYC3.out, ?_⟩
      clear hK'
      obtain ⟨⟨t0, t1, t2, t3⟩, ⟨u0, u1, u2, u3⟩, uz⟩ := blk4f HGC3.out
      refine wpAnyH_all (rs := [6]) (by kernel_rfl) (by simp) ?_
      intro ii hii
      rw [List.mem_singleton] at hii
      subst hii
      refine wpOp_step (by rfl) ?_
      intro K' hK'
      go_simp
      obtain ⟨C3s, hV⟩ : ∃ V, V = (((C3.setCell ⟨A1.heap.size, 0, none⟩ (.int .u64 (sw (orP (orP (rng 97 122) (rng 65 90)) (rng 48 57)) 0 : Nat))).setCell ⟨A1.heap.size, 1, none⟩ (.int .u64 (sw (orP (orP (rng 97 122) (rng 65 90)) (rng 48 57)) 1 : Nat))).setCell ⟨A1.heap.size, 2, none⟩ (.int .u64 (sw (orP (orP (rng 97 122) (rng 65 90)) (rng 48 57)) 2 : Nat))).setCell ⟨A1.heap.size, 3, none⟩ (.int .u64 (sw (orP (orP (rng 97 122) (rng 65 90)) (rng 48 57)) 3 : Nat)) := ⟨_, rfl⟩
      rw [← hV]
      have HYC3s : Hid (RB w w4.heap.size C3s) := Lib.hid (by rw [hV]; exact (((HYC3.out.set _ 0 _ (Or.inr hg8)).set _ 1 _ (Or.inr hg8)).set _ 2 _ (Or.inr hg8)).set _ 3 _ (Or.inr hg8))
      have HBC3s : Hid (Below (w.heap.size + 1) (w.alloc (.cells #[.int .u64 0, .int .u64 0, .int .u64 0, .int .u64 0] 39)) C3s) := Lib.hid (by rw [hV]; exact (((HBC3.out.setCell (by simp; omega) _).setCell (by simp; omega) _).setCell (by simp; omega) _).setCell (by simp; omega) _)
      have HRC3s : Hid (Row4 C3s A1.heap.size 0 (orP (orP (rng 97 122) (rng 65 90)) (rng 48 57))) := Lib.hid (by rw [hV]; exact row4_put (p := noP) (orP (orP (rng 97 122) (rng 65 90)) (rng 48 57)) (row_no t0 t1 t2 t3))
      have hgz : A1.heap.size < C3s.heap.size := by rw [hV]; simpa using uz
      clear hV t0 t1 t2 t3 u0 u1 u2 u3 uz
      refine hK' _ _ ⟨HYC3s.out, ?_⟩
      clear hK'
      refine wpAnyH_done (by kernel_rfl) ?_ _
      obtain ⟨hF0, _, hF1, hF2, hF3, hF4⟩ := HYC3s.out
      obtain ⟨⟨a0, a1, a2, a3⟩, _⟩ := blk4 hF1
      obtain ⟨⟨b0, b1, b2, b3⟩, _⟩ := blk4 hF2
      obtain ⟨⟨c0, c1, c2, c3⟩, _⟩ := blk4 hF3
      obtain ⟨⟨d0, d1, d2, d3⟩, _⟩ := blk4 hF4
      clear hF0 hF1 hF2 hF3 hF4
      obtain ⟨e0, e1', e2', e3'⟩ := HRC3s.out
      have e1 : C3s.cell? ⟨A1.heap.size, 1, none⟩ = some (.int .u64 (sw (orP (orP (rng 97 122) (rng 65 90)) (rng 48 57)) 1 : Nat)) := e1'
      have e2 : C3s.cell? ⟨A1.heap.size, 2, none⟩ = some (.int .u64 (sw (orP (orP (rng 97 122) (rng 65 90)) (rng 48 57)) 2 : Nat)) := e2'
      have e3 : C3s.cell? ⟨A1.heap.size, 3, none⟩ = some (.int .u64 (sw (orP (orP (rng 97 122) (rng 65 90)) (rng 48 57)) 3 : Nat)) := e3'
      clear e1' e2' e3'
      obtain ⟨r0, r1, r2, r3, s0, s1, s2, s3, rz⟩ := res_facts HBC3s.out (Nat.lt_succ_self _)
      go_wp2
      exact bodyPost_ret (by simp [results, Tryd.results38, go_sem, r0, r1, r2, r3]; rfl) rfl ⟨rfl, res_below HBC3s.out _ _ _ _⟩
  · skip
    refine wpOp_step (by rfl) ?_
    intro K' hK'
    go_simp
    obtain ⟨D1, hV⟩ : ∃ V, V = X0.alloc (.cells #[.int .u64 0, .int .u64 0, .int .u64 0, .int .u64 0] 39) := ⟨_, rfl⟩
    rw [← hV]
    have HYD1 : Hid (RB w w4.heap.size D1) := Lib.hid (by rw [hV]; exact HYX0.out.nxt ((Below.refl _ _).alloc (Nat.le_refl _) _))
    have HBD1 : Hid (Below (w.heap.size + 1) (w.alloc (.cells #[.int .u64 0, .int .u64 0, .int .u64 0, .int .u64 0] 39)) D1) := Lib.hid (by rw [hV]; exact HBX0.out.trans (((Below.refl _ _).alloc (Nat.le_refl _) _).mono (bsz HBX0.out)))
    have HGD1 : Hid (D1.heap[X0.heap.size]? = some (.cells #[.int .u64 0, .int .u64 0, .int .u64 0, .int .u64 0] 39)) := Lib.hid (by rw [hV]; exact alloc_last4 _ _)
    have hg8 : w4.heap.size + 1 + 1 + 1 < X0.heap.size := lt_blk HYX0.out.2.2.2.2.2
    have hg9 : w.heap.size + 1 ≤ w4.heap.size := HYX0.out.2.1
    clear hV
    refine hK' _ _ ⟨HYD1.out, ?_⟩
    clear hK'
    refine wpAnyH_all (rs := [2]) (by kernel_rfl) (by simp) ?_
    intro ii hii
    rw [List.mem_singleton] at hii
    subst hii
    refine wpOp_step (by rfl) ?_
    intro K' hK'
    go_simp
    go_at_call 25
    refine (Y1 _).out.mono ?_
    rintro e D2 ⟨rfl, hbc⟩
    have HYD2 := Lib.hid (HYD1.out.nxt hbc)
    have HBD2 := Lib.hid (HBD1.out.trans (hbc.mono (bsz HBD1.out)))
    have HGD2 := Lib.hid ((hbc.block _ (lt_blk HGD1.out)).trans HGD1.out)
    clear hbc
    unfold SV
    refine hK' _ _ ⟨HYD2.out, ?_⟩
    clear hK'
    refine wpAnyH_all (rs := [4]) (by kernel_rfl) (by simp) ?_
    intro ii hii
    rw [List.mem_singleton] at hii
    subst hii
    refine wpOp_step (by rfl) ?_
    intro K' hK'
    go_simp
    go_at_call 25
    refine (Y2 _).out.mono ?_
    rintro e D3 ⟨rfl, hbc⟩
    have HYD3 := Lib.hid (HYD2.out.nxt hbc)
    have HBD3 := Lib.hid (HBD2.out.trans (hbc.mono (bsz HBD2.out)))
    have HGD3 := Lib.hid ((hbc.block _ (lt_blk HGD2.out)).trans HGD2.out)
    clear hbc
    unfold SV
    refine hK' _ _ ⟨HYD3.out, ?_⟩
    clear hK'
    obtain ⟨⟨t0, t1, t2, t3⟩, ⟨u0, u1, u2, u3⟩, uz⟩ := blk4f HGD3.out
    refine wpAnyH_all (rs := [6]) (by kernel_rfl) (by simp) ?_
    intro ii hii
    rw [List.mem_singleton] at hii
    subst hii
    refine wpOp_step (by rfl) ?_
    intro K' hK'
    go_simp
    obtain ⟨D3s, hV⟩ : ∃ V, V = (((D3.setCell ⟨X0.heap.size, 0, none⟩ (.int .u64 (sw (orP (orP (rng 97 122) (rng 65 90)) (rng 48 57)) 0 : Nat))).setCell ⟨X0.heap.size, 1, none⟩ (.int .u64 (sw (orP (orP (rng 97 122) (rng 65 90)) (rng 48 57)) 1 : Nat))).setCell ⟨X0.heap.size, 2, none⟩ (.int .u64 (sw (orP (orP (rng 97 122) (rng 65 90)) (rng 48 57)) 2 : Nat))).setCell ⟨X0.heap.size, 3, none⟩ (.int .u64 (sw (orP (orP (rng 97 122) (rng 65 90)) (rng 48 57)) 3 : Nat)) := ⟨_, rfl⟩
    rw [← hV]
    have HYD3s : Hid (RB w w4.heap.size D3s) := Lib.hid (by rw [hV]; exact (((HYD3.out.set _ 0 _ (Or.inr hg8)).set _ 1 _ (Or.inr hg8)).set _ 2 _ (Or.inr hg8)).set _ 3 _ (Or.inr hg8))
    have HBD3s : Hid (Below (w.heap.size + 1) (w.alloc (.cells #[.int .u64 0, .int .u64 0, .int .u64 0, .int .u64 0] 39)) D3s) := Lib.hid (by rw [hV]; exact (((HBD3.out.setCell (by simp; omega) _).setCell (by simp; omega) _).setCell (by simp; omega) _).setCell (by simp; omega) _)
    have HRD3s : Hid (Row4 D3s X0.heap.size 0 (orP (orP (rng 97 122) (rng 65 90)) (rng 48 57))) := Lib.hid (by rw [hV]; exact row4_put (p := noP) (orP (orP (rng 97 122) (rng 65 90)) (rng 48 57)) (row_no t0 t1 t2 t3))
    have hgz : X0.heap.size < D3s.heap.size := by rw [hV]; simpa using uz
    clear hV t0 t1 t2 t3 u0 u1 u2 u3 uz
    refine hK' _ _ ⟨HYD3s.out, ?_⟩
    clear hK'
    refine wpAnyH_done (by kernel_rfl) ?_ _
    obtain ⟨hF0, _, hF1, hF2, hF3, hF4⟩ := HYD3s.out
    obtain ⟨⟨a0, a1, a2, a3⟩, _⟩ := blk4 hF1
    obtain ⟨⟨b0, b1, b2, b3⟩, _⟩ := blk4 hF2
    obtain ⟨⟨c0, c1, c2, c3⟩, _⟩ := blk4 hF3
    obtain ⟨⟨d0, d1, d2, d3⟩, _⟩ := blk4 hF4
    clear hF0 hF1 hF2 hF3 hF4
    obtain ⟨e0, e1', e2', e3'⟩ := HRD3s.out
    have e1 : D3s.cell? ⟨X0.heap.size, 1, none⟩ = some (.int .u64 (sw (orP (orP (rng 97 122) (rng 65 90)) (rng 48 57)) 1 : Nat)) := e1'
    have e2 : D3s.cell? ⟨X0.heap.size, 2, none⟩ = some (.int .u64 (sw (orP (orP (rng 97 122) (rng 65 90)) (rng 48 57)) 2 : Nat)) := e2'
    have e3 : D3s.cell? ⟨X0.heap.size, 3, none⟩ = some (.int .u64 (sw (orP (orP (rng 97 122) (rng 65 90)) (rng 48 57)) 3 : Nat)) := e3'
    clear e1' e2' e3'
    obtain ⟨r0, r1, r2, r3, s0, s1, s2, s3, rz⟩ := res_facts HBD3s.out (Nat.lt_succ_self _)
    go_wp2
    exact bodyPost_ret (by simp [results, Tryd.results38, go_sem, r0, r1, r2, r3]; rfl) rfl ⟨rfl, res_below HBD3s.out _ _ _ _⟩
end Go.Proofs.YtoodpajbefffhaaDoor
/- The contract of the reference's Class at alpha (gen_refclass.py). -/
namespace Go.Proofs.YtoodpajbefffhaaDoor
open Go.RowKit

set_option maxRecDepth 100000 in
set_option maxHeartbeats 16000000 in
theorem rclass_alpha (w : World) :
    Calls Tryd.prog 38 #[.string ⟨#[97, 108, 112, 104, 97]⟩] w fun e w' => e = .returned (.tuple #[SV (orP (rng 97 122) (rng 65 90)), .bool true]) ∧ Below w.heap.size w w' := by
  have X1 : ∀ w, Hid (Calls Tryd.prog 26 #[.int .u8 97, .int .u8 122] w fun e w' => e = .returned (SV (rng 97 122)) ∧ Below w.heap.size w w') := fun w => Lib.hid (rrange_any 97 122 (by omega) (by omega) w)
  have X2 : ∀ w, Hid (Calls Tryd.prog 26 #[.int .u8 65, .int .u8 90] w fun e w' => e = .returned (SV (rng 65 90)) ∧ Below w.heap.size w w') := fun w => Lib.hid (rrange_any 65 90 (by omega) (by omega) w)
  have X3 : ∀ w, Hid (Calls Tryd.prog 26 #[.int .u8 48, .int .u8 57] w fun e w' => e = .returned (SV (rng 48 57)) ∧ Below w.heap.size w w') := fun w => Lib.hid (rrange_any 48 57 (by omega) (by omega) w)
  have X4 : ∀ w, Hid (Calls Tryd.prog 26 #[.int .u8 33, .int .u8 126] w fun e w' => e = .returned (SV (rng 33 126)) ∧ Below w.heap.size w w') := fun w => Lib.hid (rrange_any 33 126 (by omega) (by omega) w)
  have Y1 : ∀ w, Hid (Calls Tryd.prog 25 #[.agg #[.int .u64 (sw (rng 97 122) 0 : Nat), .int .u64 (sw (rng 97 122) 1 : Nat), .int .u64 (sw (rng 97 122) 2 : Nat), .int .u64 (sw (rng 97 122) 3 : Nat)], .agg #[.int .u64 (sw (rng 65 90) 0 : Nat), .int .u64 (sw (rng 65 90) 1 : Nat), .int .u64 (sw (rng 65 90) 2 : Nat), .int .u64 (sw (rng 65 90) 3 : Nat)]] w fun e w' => e = .returned (SV (orP (rng 97 122) (rng 65 90))) ∧ Below w.heap.size w w') := fun w => Lib.hid (ror_any (rng 97 122) (rng 65 90) w)
  have Y2 : ∀ w, Hid (Calls Tryd.prog 25 #[.agg #[.int .u64 (sw (orP (rng 97 122) (rng 65 90)) 0 : Nat), .int .u64 (sw (orP (rng 97 122) (rng 65 90)) 1 : Nat), .int .u64 (sw (orP (rng 97 122) (rng 65 90)) 2 : Nat), .int .u64 (sw (orP (rng 97 122) (rng 65 90)) 3 : Nat)], .agg #[.int .u64 (sw (rng 48 57) 0 : Nat), .int .u64 (sw (rng 48 57) 1 : Nat), .int .u64 (sw (rng 48 57) 2 : Nat), .int .u64 (sw (rng 48 57) 3 : Nat)]] w fun e w' => e = .returned (SV (orP (orP (rng 97 122) (rng 65 90)) (rng 48 57))) ∧ Below w.heap.size w w') := fun w => Lib.hid (ror_any (orP (rng 97 122) (rng 65 90)) (rng 48 57) w)
  go_enter Tryd.func38, Tryd.ntmps38
  go_wp2_with fail
  have HB0 : Hid (Below (w.heap.size + 1) (w.alloc (.cells #[.int .u64 0, .int .u64 0, .int .u64 0, .int .u64 0] 39)) (w.alloc (.cells #[.int .u64 0, .int .u64 0, .int .u64 0, .int .u64 0] 39))) := Lib.hid (Below.refl _ _)
  refine (X1 _).out.mono ?_
  rintro e w1 ⟨rfl, hb1⟩
  have HB1 := Lib.hid (HB0.out.trans (hb1.mono (bsz HB0.out)))
  clear hb1
  go_wp2_with fail
  refine (X2 _).out.mono ?_
  rintro e w2 ⟨rfl, hb2⟩
  have HB2 := Lib.hid (HB1.out.trans (hb2.mono (bsz HB1.out)))
  clear hb2
  go_wp2_with fail
  refine (X3 _).out.mono ?_
  rintro e w3 ⟨rfl, hb3⟩
  have HB3 := Lib.hid (HB2.out.trans (hb3.mono (bsz HB2.out)))
  clear hb3
  go_wp2_with fail
  refine (X4 _).out.mono ?_
  rintro e w4 ⟨rfl, hb4⟩
  have HB4 := Lib.hid (HB3.out.trans (hb4.mono (bsz HB3.out)))
  clear hb4
  unfold SV
  go_wp2_with fail
  have HKS := RB.start w w4 HB4.out
  have HBW := Lib.hid ((((HB4.out.alloc (bsz HB4.out) (.cells #[.int .u64 (sw (rng 97 122) 0 : Nat), .int .u64 (sw (rng 97 122) 1 : Nat), .int .u64 (sw (rng 97 122) 2 : Nat), .int .u64 (sw (rng 97 122) 3 : Nat)] 39)).alloc (by have := HB4.out.size; simp at this; simp; omega) (.cells #[.int .u64 (sw (rng 65 90) 0 : Nat), .int .u64 (sw (rng 65 90) 1 : Nat), .int .u64 (sw (rng 65 90) 2 : Nat), .int .u64 (sw (rng 65 90) 3 : Nat)] 39)).alloc (by have := HB4.out.size; simp at this; simp; omega) (.cells #[.int .u64 (sw (rng 48 57) 0 : Nat), .int .u64 (sw (rng 48 57) 1 : Nat), .int .u64 (sw (rng 48 57) 2 : Nat), .int .u64 (sw (rng 48 57) 3 : Nat)] 39)).alloc (by have := HB4.out.size; simp at this; simp; omega) (.cells #[.int .u64 (sw (rng 33 126) 0 : Nat), .int .u64 (sw (rng 33 126) 1 : Nat), .int .u64 (sw (rng 33 126) 2 : Nat), .int .u64 (sw (rng 33 126) 3 : Nat)] 39))
  obtain ⟨V, hV⟩ : ∃ V, V = (((w4.alloc (.cells #[.int .u64 (sw (rng 97 122) 0 : Nat), .int .u64 (sw (rng 97 122) 1 : Nat), .int .u64 (sw (rng 97 122) 2 : Nat), .int .u64 (sw (rng 97 122) 3 : Nat)] 39)).alloc (.cells #[.int .u64 (sw (rng 65 90) 0 : Nat), .int .u64 (sw (rng 65 90) 1 : Nat), .int .u64 (sw (rng 65 90) 2 : Nat), .int .u64 (sw (rng 65 90) 3 : Nat)] 39)).alloc (.cells #[.int .u64 (sw (rng 48 57) 0 : Nat), .int .u64 (sw (rng 48 57) 1 : Nat), .int .u64 (sw (rng 48 57) 2 : Nat), .int .u64 (sw (rng 48 57) 3 : Nat)] 39)).alloc (.cells #[.int .u64 (sw (rng 33 126) 0 : Nat), .int .u64 (sw (rng 33 126) 1 : Nat), .int .u64 (sw (rng 33 126) 2 : Nat), .int .u64 (sw (rng 33 126) 3 : Nat)] 39) := ⟨_, rfl⟩
  rw [← hV] at HKS HBW ⊢
  clear hV
  have HY0 : Hid (RB w w4.heap.size V.drew) := Lib.hid (HKS.nxt (Below.refl _ _).drew)
  have HBV : Hid (Below (w.heap.size + 1) (w.alloc (.cells #[.int .u64 0, .int .u64 0, .int .u64 0, .int .u64 0] 39)) V.drew) := Lib.hid HBW.out.drew
  clear HKS HBW
  refine wp_region_held (S := fun X => RB w w4.heap.size X) (by kernel_rfl) ?_
  try (change wpAnyH _ _ _ _ _ _ _ _ (World.drew _))
  generalize V.drew = X0 at *
  refine wpAnyH_take (i := 0) (v := .agg #[.int .u64 (sw (rng 97 122) 0 : Nat), .int .u64 (sw (rng 97 122) 1 : Nat), .int .u64 (sw (rng 97 122) 2 : Nat), .int .u64 (sw (rng 97 122) 3 : Nat)]) rfl (by kernel_rfl) (by kernel_rfl) (by kernel_rfl) (fun _ _ _ h => h) (Or.inl ⟨by kernel_rfl, ?_⟩) HY0.out ?_
  · intro X hS; obtain ⟨_, _, hS3, hS4, hS5, hS6⟩ := hS; obtain ⟨⟨z0, z1, z2, z3⟩, _⟩ := blk4 hS3; clear hS3 hS4 hS5 hS6; go_simp
  try simp only [Act.put, List.setIfInBounds_toArray]
  refine wpAnyH_take (i := 1) (v := .agg #[.int .u64 (sw (rng 65 90) 0 : Nat), .int .u64 (sw (rng 65 90) 1 : Nat), .int .u64 (sw (rng 65 90) 2 : Nat), .int .u64 (sw (rng 65 90) 3 : Nat)]) rfl (by kernel_rfl) (by kernel_rfl) (by kernel_rfl) (fun _ _ _ h => h) (Or.inl ⟨by kernel_rfl, ?_⟩) HY0.out ?_
  · intro X hS; obtain ⟨_, _, hS3, hS4, hS5, hS6⟩ := hS; obtain ⟨⟨z0, z1, z2, z3⟩, _⟩ := blk4 hS4; clear hS3 hS4 hS5 hS6; go_simp
  try simp only [Act.put]
  refine wpAnyH_take (i := 3) (v := .agg #[.int .u64 (sw (rng 48 57) 0 : Nat), .int .u64 (sw (rng 48 57) 1 : Nat), .int .u64 (sw (rng 48 57) 2 : Nat), .int .u64 (sw (rng 48 57) 3 : Nat)]) rfl (by kernel_rfl) (by kernel_rfl) (by kernel_rfl) (fun _ _ _ h => h) (Or.inl ⟨by kernel_rfl, ?_⟩) HY0.out ?_
  · intro X hS; obtain ⟨_, _, hS3, hS4, hS5, hS6⟩ := hS; obtain ⟨⟨z0, z1, z2, z3⟩, _⟩ := blk4 hS5; clear hS3 hS4 hS5 hS6; go_simp
  try simp only [Act.put]
  have HYX0 := HY0
  have HBX0 := HBV
  refine wpAnyH_all (rs := [2, 5]) (by kernel_rfl) (by simp) ?_
  intro ii hii
  simp only [List.mem_cons, List.not_mem_nil, or_false] at hii
  rcases hii with rfl | rfl
  · skip
    refine wpOp_step (by rfl) ?_
    intro K' hK'
    go_simp
    go_at_call 25
    refine (Y1 _).out.mono ?_
    rintro e A1 ⟨rfl, hbc⟩
    have HYA1 := Lib.hid (HYX0.out.nxt hbc)
    have HBA1 := Lib.hid (HBX0.out.trans (hbc.mono (bsz HBX0.out)))
    clear hbc
    unfold SV
    refine hK' _ _ ⟨HYA1.out, ?_⟩
    clear hK'
    refine wpAnyH_all (rs := [4, 5]) (by kernel_rfl) (by simp) ?_
    intro ii hii
    simp only [List.mem_cons, List.not_mem_nil, or_false] at hii
    rcases hii with rfl | rfl
    · skip
      refine wpOp_step (by rfl) ?_
      intro K' hK'
      go_simp
      go_at_call 25
      refine (Y2 _).out.mono ?_
      rintro e A2 ⟨rfl, hbc⟩
      have HYA2 := Lib.hid (HYA1.out.nxt hbc)
      have HBA2 := Lib.hid (HBA1.out.trans (hbc.mono (bsz HBA1.out)))
      clear hbc
      unfold SV
      refine hK' _ _ ⟨HYA2.out, ?_⟩
      clear hK'
      refine wpAnyH_all (rs := [5]) (by kernel_rfl) (by simp) ?_
      intro ii hii
      rw [List.mem_singleton] at hii
      subst hii
      refine wpOp_step (by rfl) ?_
      intro K' hK'
      go_simp
      obtain ⟨A3, hV⟩ : ∃ V, V = A2.alloc (.cells #[.int .u64 0, .int .u64 0, .int .u64 0, .int .u64 0] 39) := ⟨_, rfl⟩
      rw [← hV]
      have HYA3 : Hid (RB w w4.heap.size A3) := Lib.hid (by rw [hV]; exact HYA2.out.nxt ((Below.refl _ _).alloc (Nat.le_refl _) _))
      have HBA3 : Hid (Below (w.heap.size + 1) (w.alloc (.cells #[.int .u64 0, .int .u64 0, .int .u64 0, .int .u64 0] 39)) A3) := Lib.hid (by rw [hV]; exact HBA2.out.trans (((Below.refl _ _).alloc (Nat.le_refl _) _).mono (bsz HBA2.out)))
      have HGA3 : Hid (A3.heap[A2.heap.size]? = some (.cells #[.int .u64 0, .int .u64 0, .int .u64 0, .int .u64 0] 39)) := Lib.hid (by rw [hV]; exact alloc_last4 _ _)
      have hg8 : w4.heap.size + 1 + 1 + 1 < A2.heap.size := lt_blk HYA2.out.2.2.2.2.2
      have hg9 : w.heap.size + 1 ≤ w4.heap.size := HYA2.out.2.1
      clear hV
      refine hK' _ _ ⟨HYA3.out, ?_⟩
      clear hK'
      obtain ⟨⟨t0, t1, t2, t3⟩, ⟨u0, u1, u2, u3⟩, uz⟩ := blk4f HGA3.out
      refine wpAnyH_all (rs := [6]) (by kernel_rfl) (by simp) ?_
      intro ii hii
      rw [List.mem_singleton] at hii
      subst hii
      refine wpOp_step (by rfl) ?_
      intro K' hK'
      go_simp
      obtain ⟨A3s, hV⟩ : ∃ V, V = (((A3.setCell ⟨A2.heap.size, 0, none⟩ (.int .u64 (sw (orP (orP (rng 97 122) (rng 65 90)) (rng 48 57)) 0 : Nat))).setCell ⟨A2.heap.size, 1, none⟩ (.int .u64 (sw (orP (orP (rng 97 122) (rng 65 90)) (rng 48 57)) 1 : Nat))).setCell ⟨A2.heap.size, 2, none⟩ (.int .u64 (sw (orP (orP (rng 97 122) (rng 65 90)) (rng 48 57)) 2 : Nat))).setCell ⟨A2.heap.size, 3, none⟩ (.int .u64 (sw (orP (orP (rng 97 122) (rng 65 90)) (rng 48 57)) 3 : Nat)) := ⟨_, rfl⟩
      rw [← hV]
      have HYA3s : Hid (RB w w4.heap.size A3s) := Lib.hid (by rw [hV]; exact (((HYA3.out.set _ 0 _ (Or.inr hg8)).set _ 1 _ (Or.inr hg8)).set _ 2 _ (Or.inr hg8)).set _ 3 _ (Or.inr hg8))
      have HBA3s : Hid (Below (w.heap.size + 1) (w.alloc (.cells #[.int .u64 0, .int .u64 0, .int .u64 0, .int .u64 0] 39)) A3s) := Lib.hid (by rw [hV]; exact (((HBA3.out.setCell (by simp; omega) _).setCell (by simp; omega) _).setCell (by simp; omega) _).setCell (by simp; omega) _)
      have HRA3s : Hid (Row4 A3s A2.heap.size 0 (orP (orP (rng 97 122) (rng 65 90)) (rng 48 57))) := Lib.hid (by rw [hV]; exact row4_put (p := noP) (orP (orP (rng 97 122) (rng 65 90)) (rng 48 57)) (row_no t0 t1 t2 t3))
      have hgz : A2.heap.size < A3s.heap.size := by rw [hV]; simpa using uz
      clear hV t0 t1 t2 t3 u0 u1 u2 u3 uz
      refine hK' _ _ ⟨HYA3s.out, ?_⟩
      clear hK'
      refine wpAnyH_done (by kernel_rfl) ?_ _
      obtain ⟨hF0, _, hF1, hF2, hF3, hF4⟩ := HYA3s.out
      obtain ⟨⟨a0, a1, a2, a3⟩, _⟩ := blk4 hF1
      obtain ⟨⟨b0, b1, b2, b3⟩, _⟩ := blk4 hF2
      obtain ⟨⟨c0, c1, c2, c3⟩, _⟩ := blk4 hF3
      obtain ⟨⟨d0, d1, d2, d3⟩, _⟩ := blk4 hF4
      clear hF0 hF1 hF2 hF3 hF4
      obtain ⟨e0, e1', e2', e3'⟩ := HRA3s.out
      have e1 : A3s.cell? ⟨A2.heap.size, 1, none⟩ = some (.int .u64 (sw (orP (orP (rng 97 122) (rng 65 90)) (rng 48 57)) 1 : Nat)) := e1'
      have e2 : A3s.cell? ⟨A2.heap.size, 2, none⟩ = some (.int .u64 (sw (orP (orP (rng 97 122) (rng 65 90)) (rng 48 57)) 2 : Nat)) := e2'
      have e3 : A3s.cell? ⟨A2.heap.size, 3, none⟩ = some (.int .u64 (sw (orP (orP (rng 97 122) (rng 65 90)) (rng 48 57)) 3 : Nat)) := e3'
      clear e1' e2' e3'
      obtain ⟨r0, r1, r2, r3, s0, s1, s2, s3, rz⟩ := res_facts HBA3s.out (Nat.lt_succ_self _)
      clear r0 r1 r2 r3 s0 s1 s2 s3 rz
      go_wp2_with fail
      refine (Y1 _).out.mono ?_
      rintro e A3sq0 ⟨rfl, hbc⟩
      have HBA3sq0 := Lib.hid (HBA3s.out.trans (hbc.mono (bsz HBA3s.out)))
      clear hbc
      unfold SV
      obtain ⟨r0, r1, r2, r3, s0, s1, s2, s3, rz⟩ := res_facts HBA3sq0.out (Nat.lt_succ_self _)
      go_wp2
      exact bodyPost_ret (by simp [results, Tryd.results38, go_sem, r0, r1, r2, r3]; rfl) rfl ⟨rfl, res_below HBA3sq0.out _ _ _ _⟩
    · skip
      refine wpOp_step (by rfl) ?_
      intro K' hK'
      go_simp
      obtain ⟨C2, hV⟩ : ∃ V, V = A1.alloc (.cells #[.int .u64 0, .int .u64 0, .int .u64 0, .int .u64 0] 39) := ⟨_, rfl⟩
      rw [← hV]
      have HYC2 : Hid (RB w w4.heap.size C2) := Lib.hid (by rw [hV]; exact HYA1.out.nxt ((Below.refl _ _).alloc (Nat.le_refl _) _))
      have HBC2 : Hid (Below (w.heap.size + 1) (w.alloc (.cells #[.int .u64 0, .int .u64 0, .int .u64 0, .int .u64 0] 39)) C2) := Lib.hid (by rw [hV]; exact HBA1.out.trans (((Below.refl _ _).alloc (Nat.le_refl _) _).mono (bsz HBA1.out)))
      have HGC2 : Hid (C2.heap[A1.heap.size]? = some (.cells #[.int .u64 0, .int .u64 0, .int .u64 0, .int .u64 0] 39)) := Lib.hid (by rw [hV]; exact alloc_last4 _ _)
      have hg8 : w4.heap.size + 1 + 1 + 1 < A1.heap.size := lt_blk HYA1.out.2.2.2.2.2
      have hg9 : w.heap.size + 1 ≤ w4.heap.size := HYA1.out.2.1
      clear hV
      refine hK' _ _ ⟨HYC2.out, ?_⟩
      clear hK'
      refine wpAnyH_all (rs := [4]) (by kernel_rfl) (by simp) ?_
      intro ii hii
      rw [List.mem_singleton] at hii
      subst hii
      refine wpOp_step (by rfl) ?_
      intro K' hK'
      go_simp
      go_at_call 25
      refine (Y2 _).out.mono ?_
      rintro e C3 ⟨rfl, hbc⟩
      have HYC3 := Lib.hid (HYC2.out.nxt hbc)
      have HBC3 := Lib.hid (HBC2.out.trans (hbc.mono (bsz HBC2.out)))
      have HGC3 := Lib.hid ((hbc.block _ (lt_blk HGC2.out)).trans HGC2.out)
      clear hbc
      unfold SV
      refine hK' _ _ ⟨HYC3.out, ?_⟩
      clear hK'
      obtain ⟨⟨t0, t1, t2, t3⟩, ⟨u0, u1, u2, u3⟩, uz⟩ := blk4f HGC3.out
      refine wpAnyH_all (rs := [6]) (by kernel_rfl) (by simp) ?_
      intro ii hii
      rw [List.mem_singleton] at hii
      subst hii
      refine wpOp_step (by rfl) ?_
      intro K' hK'
      go_simp
      obtain ⟨C3s, hV⟩ : ∃ V, V = (((C3.setCell ⟨A1.heap.size, 0, none⟩ (.int .u64 (sw (orP (orP (rng 97 122) (rng 65 90)) (rng 48 57)) 0 : Nat))).setCell ⟨A1.heap.size, 1, none⟩ (.int .u64 (sw (orP (orP (rng 97 122) (rng 65 90)) (rng 48 57)) 1 : Nat))).setCell ⟨A1.heap.size, 2, none⟩ (.int .u64 (sw (orP (orP (rng 97 122) (rng 65 90)) (rng 48 57)) 2 : Nat))).setCell ⟨A1.heap.size, 3, none⟩ (.int .u64 (sw (orP (orP (rng 97 122) (rng 65 90)) (rng 48 57)) 3 : Nat)) := ⟨_, rfl⟩
      rw [← hV]
      have HYC3s : Hid (RB w w4.heap.size C3s) := Lib.hid (by rw [hV]; exact (((HYC3.out.set _ 0 _ (Or.inr hg8)).set _ 1 _ (Or.inr hg8)).set _ 2 _ (Or.inr hg8)).set _ 3 _ (Or.inr hg8))
      have HBC3s : Hid (Below (w.heap.size + 1) (w.alloc (.cells #[.int .u64 0, .int .u64 0, .int .u64 0, .int .u64 0] 39)) C3s) := Lib.hid (by rw [hV]; exact (((HBC3.out.setCell (by simp; omega) _).setCell (by simp; omega) _).setCell (by simp; omega) _).setCell (by simp; omega) _)
      have HRC3s : Hid (Row4 C3s A1.heap.size 0 (orP (orP (rng 97 122) (rng 65 90)) (rng 48 57))) := Lib.hid (by rw [hV]; exact row4_put (p := noP) (orP (orP (rng 97 122) (rng 65 90)) (rng 48 57)) (row_no t0 t1 t2 t3))
      have hgz : A1.heap.size < C3s.heap.size := by rw [hV]; simpa using uz
      clear hV t0 t1 t2 t3 u0 u1 u2 u3 uz
      refine hK' _ _ ⟨HYC3s.out, ?_⟩
      clear hK'
      refine wpAnyH_done (by kernel_rfl) ?_ _
      obtain ⟨hF0, _, hF1, hF2, hF3, hF4⟩ := HYC3s.out
      obtain ⟨⟨a0, a1, a2, a3⟩, _⟩ := blk4 hF1
      obtain ⟨⟨b0, b1, b2, b3⟩, _⟩ := blk4 hF2
      obtain ⟨⟨c0, c1, c2, c3⟩, _⟩ := blk4 hF3
      obtain ⟨⟨d0, d1, d2, d3⟩, _⟩ := blk4 hF4
      clear hF0 hF1 hF2 hF3 hF4
      obtain ⟨e0, e1', e2', e3'⟩ := HRC3s.out
      have e1 : C3s.cell? ⟨A1.heap.size, 1, none⟩ = some (.int .u64 (sw (orP (orP (rng 97 122) (rng 65 90)) (rng 48 57)) 1 : Nat)) := e1'
      have e2 : C3s.cell? ⟨A1.heap.size, 2, none⟩ = some (.int .u64 (sw (orP (orP (rng 97 122) (rng 65 90)) (rng 48 57)) 2 : Nat)) := e2'
      have e3 : C3s.cell? ⟨A1.heap.size, 3, none⟩ = some (.int .u64 (sw (orP (orP (rng 97 122) (rng 65 90)) (rng 48 57)) 3 : Nat)) := e3'
      clear e1' e2' e3'
      obtain ⟨r0, r1, r2, r3, s0, s1, s2, s3, rz⟩ := res_facts HBC3s.out (Nat.lt_succ_self _)
      clear r0 r1 r2 r3 s0 s1 s2 s3 rz
      go_wp2_with fail
      refine (Y1 _).out.mono ?_
      rintro e C3sq0 ⟨rfl, hbc⟩
      have HBC3sq0 := Lib.hid (HBC3s.out.trans (hbc.mono (bsz HBC3s.out)))
      clear hbc
      unfold SV
      obtain ⟨r0, r1, r2, r3, s0, s1, s2, s3, rz⟩ := res_facts HBC3sq0.out (Nat.lt_succ_self _)
      go_wp2
      exact bodyPost_ret (by simp [results, Tryd.results38, go_sem, r0, r1, r2, r3]; rfl) rfl ⟨rfl, res_below HBC3sq0.out _ _ _ _⟩
  · skip
    refine wpOp_step (by rfl) ?_
    intro K' hK'
    go_simp
    obtain ⟨D1, hV⟩ : ∃ V, V = X0.alloc (.cells #[.int .u64 0, .int .u64 0, .int .u64 0, .int .u64 0] 39) := ⟨_, rfl⟩
    rw [← hV]
    have HYD1 : Hid (RB w w4.heap.size D1) := Lib.hid (by rw [hV]; exact HYX0.out.nxt ((Below.refl _ _).alloc (Nat.le_refl _) _))
    have HBD1 : Hid (Below (w.heap.size + 1) (w.alloc (.cells #[.int .u64 0, .int .u64 0, .int .u64 0, .int .u64 0] 39)) D1) := Lib.hid (by rw [hV]; exact HBX0.out.trans (((Below.refl _ _).alloc (Nat.le_refl _) _).mono (bsz HBX0.out)))
    have HGD1 : Hid (D1.heap[X0.heap.size]? = some (.cells #[.int .u64 0, .int .u64 0, .int .u64 0, .int .u64 0] 39)) := Lib.hid (by rw [hV]; exact alloc_last4 _ _)
    have hg8 : w4.heap.size + 1 + 1 + 1 < X0.heap.size := lt_blk HYX0.out.2.2.2.2.2
    have hg9 : w.heap.size + 1 ≤ w4.heap.size := HYX0.out.2.1
    clear hV
    refine hK' _ _ ⟨HYD1.out, ?_⟩
    clear hK'
    refine wpAnyH_all (rs := [2]) (by kernel_rfl) (by simp) ?_
    intro ii hii
    rw [List.mem_singleton] at hii
    subst hii
    refine wpOp_step (by rfl) ?_
    intro K' hK'
    go_simp
    go_at_call 25
    refine (Y1 _).out.mono ?_
    rintro e D2 ⟨rfl, hbc⟩
    have HYD2 := Lib.hid (HYD1.out.nxt hbc)
    have HBD2 := Lib.hid (HBD1.out.trans (hbc.mono (bsz HBD1.out)))
    have HGD2 := Lib.hid ((hbc.block _ (lt_blk HGD1.out)).trans HGD1.out)
    clear hbc
    unfold SV
    refine hK' _ _ ⟨HYD2.out, ?_⟩
    clear hK'
    refine wpAnyH_all (rs := [4]) (by kernel_rfl) (by simp) ?_
    intro ii hii
    rw [List.mem_singleton] at hii
    subst hii
    refine wpOp_step (by rfl) ?_
    intro K' hK'
    go_simp
    go_at_call 25
    refine (Y2 _).out.mono ?_
    rintro e D3 ⟨rfl, hbc⟩
    have HYD3 := Lib.hid (HYD2.out.nxt hbc)
    have HBD3 := Lib.hid (HBD2.out.trans (hbc.mono (bsz HBD2.out)))
    have HGD3 := Lib.hid ((hbc.block _ (lt_blk HGD2.out)).trans HGD2.out)
    clear hbc
    unfold SV
    refine hK' _ _ ⟨HYD3.out, ?_⟩
    clear hK'
    obtain ⟨⟨t0, t1, t2, t3⟩, ⟨u0, u1, u2, u3⟩, uz⟩ := blk4f HGD3.out
    refine wpAnyH_all (rs := [6]) (by kernel_rfl) (by simp) ?_
    intro ii hii
    rw [List.mem_singleton] at hii
    subst hii
    refine wpOp_step (by rfl) ?_
    intro K' hK'
    go_simp
    obtain ⟨D3s, hV⟩ : ∃ V, V = (((D3.setCell ⟨X0.heap.size, 0, none⟩ (.int .u64 (sw (orP (orP (rng 97 122) (rng 65 90)) (rng 48 57)) 0 : Nat))).setCell ⟨X0.heap.size, 1, none⟩ (.int .u64 (sw (orP (orP (rng 97 122) (rng 65 90)) (rng 48 57)) 1 : Nat))).setCell ⟨X0.heap.size, 2, none⟩ (.int .u64 (sw (orP (orP (rng 97 122) (rng 65 90)) (rng 48 57)) 2 : Nat))).setCell ⟨X0.heap.size, 3, none⟩ (.int .u64 (sw (orP (orP (rng 97 122) (rng 65 90)) (rng 48 57)) 3 : Nat)) := ⟨_, rfl⟩
    rw [← hV]
    have HYD3s : Hid (RB w w4.heap.size D3s) := Lib.hid (by rw [hV]; exact (((HYD3.out.set _ 0 _ (Or.inr hg8)).set _ 1 _ (Or.inr hg8)).set _ 2 _ (Or.inr hg8)).set _ 3 _ (Or.inr hg8))
    have HBD3s : Hid (Below (w.heap.size + 1) (w.alloc (.cells #[.int .u64 0, .int .u64 0, .int .u64 0, .int .u64 0] 39)) D3s) := Lib.hid (by rw [hV]; exact (((HBD3.out.setCell (by simp; omega) _).setCell (by simp; omega) _).setCell (by simp; omega) _).setCell (by simp; omega) _)
    have HRD3s : Hid (Row4 D3s X0.heap.size 0 (orP (orP (rng 97 122) (rng 65 90)) (rng 48 57))) := Lib.hid (by rw [hV]; exact row4_put (p := noP) (orP (orP (rng 97 122) (rng 65 90)) (rng 48 57)) (row_no t0 t1 t2 t3))
    have hgz : X0.heap.size < D3s.heap.size := by rw [hV]; simpa using uz
    clear hV t0 t1 t2 t3 u0 u1 u2 u3 uz
    refine hK' _ _ ⟨HYD3s.out, ?_⟩
    clear hK'
    refine wpAnyH_done (by kernel_rfl) ?_ _
    obtain ⟨hF0, _, hF1, hF2, hF3, hF4⟩ := HYD3s.out
    obtain ⟨⟨a0, a1, a2, a3⟩, _⟩ := blk4 hF1
    obtain ⟨⟨b0, b1, b2, b3⟩, _⟩ := blk4 hF2
    obtain ⟨⟨c0, c1, c2, c3⟩, _⟩ := blk4 hF3
    obtain ⟨⟨d0, d1, d2, d3⟩, _⟩ := blk4 hF4
    clear hF0 hF1 hF2 hF3 hF4
    obtain ⟨e0, e1', e2', e3'⟩ := HRD3s.out
    have e1 : D3s.cell? ⟨X0.heap.size, 1, none⟩ = some (.int .u64 (sw (orP (orP (rng 97 122) (rng 65 90)) (rng 48 57)) 1 : Nat)) := e1'
    have e2 : D3s.cell? ⟨X0.heap.size, 2, none⟩ = some (.int .u64 (sw (orP (orP (rng 97 122) (rng 65 90)) (rng 48 57)) 2 : Nat)) := e2'
    have e3 : D3s.cell? ⟨X0.heap.size, 3, none⟩ = some (.int .u64 (sw (orP (orP (rng 97 122) (rng 65 90)) (rng 48 57)) 3 : Nat)) := e3'
    clear e1' e2' e3'
    obtain ⟨r0, r1, r2, r3, s0, s1, s2, s3, rz⟩ := res_facts HBD3s.out (Nat.lt_succ_self _)
    clear r0 r1 r2 r3 s0 s1 s2 s3 rz
    go_wp2_with fail
    refine (Y1 _).out.mono ?_
    rintro e D3sq0 ⟨rfl, hbc⟩
    have HBD3sq0 := Lib.hid (HBD3s.out.trans (hbc.mono (bsz HBD3s.out)))
    clear hbc
    unfold SV
    obtain ⟨r0, r1, r2, r3, s0, s1, s2, s3, rz⟩ := res_facts HBD3sq0.out (Nat.lt_succ_self _)
    go_wp2
    exact bodyPost_ret (by simp [results, Tryd.results38, go_sem, r0, r1, r2, r3]; rfl) rfl ⟨rfl, res_below HBD3sq0.out _ _ _ _⟩
end Go.Proofs.YtoodpajbefffhaaDoor
/- The contract of the reference's Class at alnum (gen_refclass.py). -/
namespace Go.Proofs.YtoodpajbefffhaaDoor
open Go.RowKit

set_option maxRecDepth 100000 in
set_option maxHeartbeats 16000000 in
theorem rclass_alnum (w : World) :
    Calls Tryd.prog 38 #[.string ⟨#[97, 108, 110, 117, 109]⟩] w fun e w' => e = .returned (.tuple #[SV (orP (orP (rng 97 122) (rng 65 90)) (rng 48 57)), .bool true]) ∧ Below w.heap.size w w' := by
  have X1 : ∀ w, Hid (Calls Tryd.prog 26 #[.int .u8 97, .int .u8 122] w fun e w' => e = .returned (SV (rng 97 122)) ∧ Below w.heap.size w w') := fun w => Lib.hid (rrange_any 97 122 (by omega) (by omega) w)
  have X2 : ∀ w, Hid (Calls Tryd.prog 26 #[.int .u8 65, .int .u8 90] w fun e w' => e = .returned (SV (rng 65 90)) ∧ Below w.heap.size w w') := fun w => Lib.hid (rrange_any 65 90 (by omega) (by omega) w)
  have X3 : ∀ w, Hid (Calls Tryd.prog 26 #[.int .u8 48, .int .u8 57] w fun e w' => e = .returned (SV (rng 48 57)) ∧ Below w.heap.size w w') := fun w => Lib.hid (rrange_any 48 57 (by omega) (by omega) w)
  have X4 : ∀ w, Hid (Calls Tryd.prog 26 #[.int .u8 33, .int .u8 126] w fun e w' => e = .returned (SV (rng 33 126)) ∧ Below w.heap.size w w') := fun w => Lib.hid (rrange_any 33 126 (by omega) (by omega) w)
  have Y1 : ∀ w, Hid (Calls Tryd.prog 25 #[.agg #[.int .u64 (sw (rng 97 122) 0 : Nat), .int .u64 (sw (rng 97 122) 1 : Nat), .int .u64 (sw (rng 97 122) 2 : Nat), .int .u64 (sw (rng 97 122) 3 : Nat)], .agg #[.int .u64 (sw (rng 65 90) 0 : Nat), .int .u64 (sw (rng 65 90) 1 : Nat), .int .u64 (sw (rng 65 90) 2 : Nat), .int .u64 (sw (rng 65 90) 3 : Nat)]] w fun e w' => e = .returned (SV (orP (rng 97 122) (rng 65 90))) ∧ Below w.heap.size w w') := fun w => Lib.hid (ror_any (rng 97 122) (rng 65 90) w)
  have Y2 : ∀ w, Hid (Calls Tryd.prog 25 #[.agg #[.int .u64 (sw (orP (rng 97 122) (rng 65 90)) 0 : Nat), .int .u64 (sw (orP (rng 97 122) (rng 65 90)) 1 : Nat), .int .u64 (sw (orP (rng 97 122) (rng 65 90)) 2 : Nat), .int .u64 (sw (orP (rng 97 122) (rng 65 90)) 3 : Nat)], .agg #[.int .u64 (sw (rng 48 57) 0 : Nat), .int .u64 (sw (rng 48 57) 1 : Nat), .int .u64 (sw (rng 48 57) 2 : Nat), .int .u64 (sw (rng 48 57) 3 : Nat)]] w fun e w' => e = .returned (SV (orP (orP (rng 97 122) (rng 65 90)) (rng 48 57))) ∧ Below w.heap.size w w') := fun w => Lib.hid (ror_any (orP (rng 97 122) (rng 65 90)) (rng 48 57) w)
  go_enter Tryd.func38, Tryd.ntmps38
  go_wp2_with fail
  have HB0 : Hid (Below (w.heap.size + 1) (w.alloc (.cells #[.int .u64 0, .int .u64 0, .int .u64 0, .int .u64 0] 39)) (w.alloc (.cells #[.int .u64 0, .int .u64 0, .int .u64 0, .int .u64 0] 39))) := Lib.hid (Below.refl _ _)
  refine (X1 _).out.mono ?_
  rintro e w1 ⟨rfl, hb1⟩
  have HB1 := Lib.hid (HB0.out.trans (hb1.mono (bsz HB0.out)))
  clear hb1
  go_wp2_with fail
  refine (X2 _).out.mono ?_
  rintro e w2 ⟨rfl, hb2⟩
  have HB2 := Lib.hid (HB1.out.trans (hb2.mono (bsz HB1.out)))
  clear hb2
  go_wp2_with fail
  refine (X3 _).out.mono ?_
  rintro e w3 ⟨rfl, hb3⟩
  have HB3 := Lib.hid (HB2.out.trans (hb3.mono (bsz HB2.out)))
  clear hb3
  go_wp2_with fail
  refine (X4 _).out.mono ?_
  rintro e w4 ⟨rfl, hb4⟩
  have HB4 := Lib.hid (HB3.out.trans (hb4.mono (bsz HB3.out)))
  clear hb4
  unfold SV
  go_wp2_with fail
  have HKS := RB.start w w4 HB4.out
  have HBW := Lib.hid ((((HB4.out.alloc (bsz HB4.out) (.cells #[.int .u64 (sw (rng 97 122) 0 : Nat), .int .u64 (sw (rng 97 122) 1 : Nat), .int .u64 (sw (rng 97 122) 2 : Nat), .int .u64 (sw (rng 97 122) 3 : Nat)] 39)).alloc (by have := HB4.out.size; simp at this; simp; omega) (.cells #[.int .u64 (sw (rng 65 90) 0 : Nat), .int .u64 (sw (rng 65 90) 1 : Nat), .int .u64 (sw (rng 65 90) 2 : Nat), .int .u64 (sw (rng 65 90) 3 : Nat)] 39)).alloc (by have := HB4.out.size; simp at this; simp; omega) (.cells #[.int .u64 (sw (rng 48 57) 0 : Nat), .int .u64 (sw (rng 48 57) 1 : Nat), .int .u64 (sw (rng 48 57) 2 : Nat), .int .u64 (sw (rng 48 57) 3 : Nat)] 39)).alloc (by have := HB4.out.size; simp at this; simp; omega) (.cells #[.int .u64 (sw (rng 33 126) 0 : Nat), .int .u64 (sw (rng 33 126) 1 : Nat), .int .u64 (sw (rng 33 126) 2 : Nat), .int .u64 (sw (rng 33 126) 3 : Nat)] 39))
  obtain ⟨V, hV⟩ : ∃ V, V = (((w4.alloc (.cells #[.int .u64 (sw (rng 97 122) 0 : Nat), .int .u64 (sw (rng 97 122) 1 : Nat), .int .u64 (sw (rng 97 122) 2 : Nat), .int .u64 (sw (rng 97 122) 3 : Nat)] 39)).alloc (.cells #[.int .u64 (sw (rng 65 90) 0 : Nat), .int .u64 (sw (rng 65 90) 1 : Nat), .int .u64 (sw (rng 65 90) 2 : Nat), .int .u64 (sw (rng 65 90) 3 : Nat)] 39)).alloc (.cells #[.int .u64 (sw (rng 48 57) 0 : Nat), .int .u64 (sw (rng 48 57) 1 : Nat), .int .u64 (sw (rng 48 57) 2 : Nat), .int .u64 (sw (rng 48 57) 3 : Nat)] 39)).alloc (.cells #[.int .u64 (sw (rng 33 126) 0 : Nat), .int .u64 (sw (rng 33 126) 1 : Nat), .int .u64 (sw (rng 33 126) 2 : Nat), .int .u64 (sw (rng 33 126) 3 : Nat)] 39) := ⟨_, rfl⟩
  rw [← hV] at HKS HBW ⊢
  clear hV
  have HY0 : Hid (RB w w4.heap.size V.drew) := Lib.hid (HKS.nxt (Below.refl _ _).drew)
  have HBV : Hid (Below (w.heap.size + 1) (w.alloc (.cells #[.int .u64 0, .int .u64 0, .int .u64 0, .int .u64 0] 39)) V.drew) := Lib.hid HBW.out.drew
  clear HKS HBW
  refine wp_region_held (S := fun X => RB w w4.heap.size X) (by kernel_rfl) ?_
  try (change wpAnyH _ _ _ _ _ _ _ _ (World.drew _))
  generalize V.drew = X0 at *
  refine wpAnyH_take (i := 0) (v := .agg #[.int .u64 (sw (rng 97 122) 0 : Nat), .int .u64 (sw (rng 97 122) 1 : Nat), .int .u64 (sw (rng 97 122) 2 : Nat), .int .u64 (sw (rng 97 122) 3 : Nat)]) rfl (by kernel_rfl) (by kernel_rfl) (by kernel_rfl) (fun _ _ _ h => h) (Or.inl ⟨by kernel_rfl, ?_⟩) HY0.out ?_
  · intro X hS; obtain ⟨_, _, hS3, hS4, hS5, hS6⟩ := hS; obtain ⟨⟨z0, z1, z2, z3⟩, _⟩ := blk4 hS3; clear hS3 hS4 hS5 hS6; go_simp
  try simp only [Act.put, List.setIfInBounds_toArray]
  refine wpAnyH_take (i := 1) (v := .agg #[.int .u64 (sw (rng 65 90) 0 : Nat), .int .u64 (sw (rng 65 90) 1 : Nat), .int .u64 (sw (rng 65 90) 2 : Nat), .int .u64 (sw (rng 65 90) 3 : Nat)]) rfl (by kernel_rfl) (by kernel_rfl) (by kernel_rfl) (fun _ _ _ h => h) (Or.inl ⟨by kernel_rfl, ?_⟩) HY0.out ?_
  · intro X hS; obtain ⟨_, _, hS3, hS4, hS5, hS6⟩ := hS; obtain ⟨⟨z0, z1, z2, z3⟩, _⟩ := blk4 hS4; clear hS3 hS4 hS5 hS6; go_simp
  try simp only [Act.put]
  refine wpAnyH_take (i := 3) (v := .agg #[.int .u64 (sw (rng 48 57) 0 : Nat), .int .u64 (sw (rng 48 57) 1 : Nat), .int .u64 (sw (rng 48 57) 2 : Nat), .int .u64 (sw (rng 48 57) 3 : Nat)]) rfl (by kernel_rfl) (by kernel_rfl) (by kernel_rfl) (fun _ _ _ h => h) (Or.inl ⟨by kernel_rfl, ?_⟩) HY0.out ?_
  · intro X hS; obtain ⟨_, _, hS3, hS4, hS5, hS6⟩ := hS; obtain ⟨⟨z0, z1, z2, z3⟩, _⟩ := blk4 hS5; clear hS3 hS4 hS5 hS6; go_simp
  try simp only [Act.put]
  have HYX0 := HY0
  have HBX0 := HBV
  refine wpAnyH_all (rs := [2, 5]) (by kernel_rfl) (by simp) ?_
  intro ii hii
  simp only [List.mem_cons, List.not_mem_nil, or_false] at hii
  rcases hii with rfl | rfl
  · skip
    refine wpOp_step (by rfl) ?_
    intro K' hK'
    go_simp
    go_at_call 25
    refine (Y1 _).out.mono ?_
    rintro e A1 ⟨rfl, hbc⟩
    have HYA1 := Lib.hid (HYX0.out.nxt hbc)
    have HBA1 := Lib.hid (HBX0.out.trans (hbc.mono (bsz HBX0.out)))
    clear hbc
    unfold SV
    refine hK' _ _ ⟨HYA1.out, ?_⟩
    clear hK'
    refine wpAnyH_all (rs := [4, 5]) (by kernel_rfl) (by simp) ?_
    intro ii hii
    simp only [List.mem_cons, List.not_mem_nil, or_false] at hii
    rcases hii with rfl | rfl
    · skip
      refine wpOp_step (by rfl) ?_
      intro K' hK'
      go_simp
      go_at_call 25
      refine (Y2 _).out.mono ?_
      rintro e A2 ⟨rfl, hbc⟩
      have HYA2 := Lib.hid (HYA1.out.nxt hbc)
      have HBA2 := Lib.hid (HBA1.out.trans (hbc.mono (bsz HBA1.out)))
      clear hbc
      unfold SV
      refine hK' _ _ ⟨HYA2.out, ?_⟩
      clear hK'
      refine wpAnyH_all (rs := [5]) (by kernel_rfl) (by simp) ?_
      intro ii hii
      rw [List.mem_singleton] at hii
      subst hii
      refine wpOp_step (by rfl) ?_
      intro K' hK'
      go_simp
      obtain ⟨A3, hV⟩ : ∃ V, V = A2.alloc (.cells #[.int .u64 0, .int .u64 0, .int .u64 0, .int .u64 0] 39) := ⟨_, rfl⟩
      rw [← hV]
      have HYA3 : Hid (RB w w4.heap.size A3) := Lib.hid (by rw [hV]; exact HYA2.out.nxt ((Below.refl _ _).alloc (Nat.le_refl _) _))
      have HBA3 : Hid (Below (w.heap.size + 1) (w.alloc (.cells #[.int .u64 0, .int .u64 0, .int .u64 0, .int .u64 0] 39)) A3) := Lib.hid (by rw [hV]; exact HBA2.out.trans (((Below.refl _ _).alloc (Nat.le_refl _) _).mono (bsz HBA2.out)))
      have HGA3 : Hid (A3.heap[A2.heap.size]? = some (.cells #[.int .u64 0, .int .u64 0, .int .u64 0, .int .u64 0] 39)) := Lib.hid (by rw [hV]; exact alloc_last4 _ _)
      have hg8 : w4.heap.size + 1 + 1 + 1 < A2.heap.size := lt_blk HYA2.out.2.2.2.2.2
      have hg9 : w.heap.size + 1 ≤ w4.heap.size := HYA2.out.2.1
      clear hV
      refine hK' _ _ ⟨HYA3.out, ?_⟩
      clear hK'
      obtain ⟨⟨t0, t1, t2, t3⟩, ⟨u0, u1, u2, u3⟩, uz⟩ := blk4f HGA3.out
      refine wpAnyH_all (rs := [6]) (by kernel_rfl) (by simp) ?_
      intro ii hii
      rw [List.mem_singleton] at hii
      subst hii
      refine wpOp_step (by rfl) ?_
      intro K' hK'
      go_simp
      obtain ⟨A3s, hV⟩ : ∃ V, V = (((A3.setCell ⟨A2.heap.size, 0, none⟩ (.int .u64 (sw (orP (orP (rng 97 122) (rng 65 90)) (rng 48 57)) 0 : Nat))).setCell ⟨A2.heap.size, 1, none⟩ (.int .u64 (sw (orP (orP (rng 97 122) (rng 65 90)) (rng 48 57)) 1 : Nat))).setCell ⟨A2.heap.size, 2, none⟩ (.int .u64 (sw (orP (orP (rng 97 122) (rng 65 90)) (rng 48 57)) 2 : Nat))).setCell ⟨A2.heap.size, 3, none⟩ (.int .u64 (sw (orP (orP (rng 97 122) (rng 65 90)) (rng 48 57)) 3 : Nat)) := ⟨_, rfl⟩
      rw [← hV]
      have HYA3s : Hid (RB w w4.heap.size A3s) := Lib.hid (by rw [hV]; exact (((HYA3.out.set _ 0 _ (Or.inr hg8)).set _ 1 _ (Or.inr hg8)).set _ 2 _ (Or.inr hg8)).set _ 3 _ (Or.inr hg8))
      have HBA3s : Hid (Below (w.heap.size + 1) (w.alloc (.cells #[.int .u64 0, .int .u64 0, .int .u64 0, .int .u64 0] 39)) A3s) := Lib.hid (by rw [hV]; exact (((HBA3.out.setCell (by simp; omega) _).setCell (by simp; omega) _).setCell (by simp; omega) _).setCell (by simp; omega) _)
      have HRA3s : Hid (Row4 A3s A2.heap.size 0 (orP (orP (rng 97 122) (rng 65 90)) (rng 48 57))) := Lib.hid (by rw [hV]; exact row4_put (p := noP) (orP (orP (rng 97 122) (rng 65 90)) (rng 48 57)) (row_no t0 t1 t2 t3))
      have hgz : A2.heap.size < A3s.heap.size := by rw [hV]; simpa using uz
      clear hV t0 t1 t2 t3 u0 u1 u2 u3 uz
      refine hK' _ _ ⟨HYA3s.out, ?_⟩
      clear hK'
      refine wpAnyH_done (by kernel_rfl) ?_ _
      obtain ⟨hF0, _, hF1, hF2, hF3, hF4⟩ := HYA3s.out
      obtain ⟨⟨a0, a1, a2, a3⟩, _⟩ := blk4 hF1
      obtain ⟨⟨b0, b1, b2, b3⟩, _⟩ := blk4 hF2
      obtain ⟨⟨c0, c1, c2, c3⟩, _⟩ := blk4 hF3
      obtain ⟨⟨d0, d1, d2, d3⟩, _⟩ := blk4 hF4
      clear hF0 hF1 hF2 hF3 hF4
      obtain ⟨e0, e1', e2', e3'⟩ := HRA3s.out
      have e1 : A3s.cell? ⟨A2.heap.size, 1, none⟩ = some (.int .u64 (sw (orP (orP (rng 97 122) (rng 65 90)) (rng 48 57)) 1 : Nat)) := e1'
      have e2 : A3s.cell? ⟨A2.heap.size, 2, none⟩ = some (.int .u64 (sw (orP (orP (rng 97 122) (rng 65 90)) (rng 48 57)) 2 : Nat)) := e2'
      have e3 : A3s.cell? ⟨A2.heap.size, 3, none⟩ = some (.int .u64 (sw (orP (orP (rng 97 122) (rng 65 90)) (rng 48 57)) 3 : Nat)) := e3'
      clear e1' e2' e3'
      obtain ⟨r0, r1, r2, r3, s0, s1, s2, s3, rz⟩ := res_facts HBA3s.out (Nat.lt_succ_self _)
      go_wp2
      exact bodyPost_ret (by simp [results, Tryd.results38, go_sem, r0, r1, r2, r3]; rfl) rfl ⟨rfl, res_below HBA3s.out _ _ _ _⟩
    · skip
      refine wpOp_step (by rfl) ?_
      intro K' hK'
      go_simp
      obtain ⟨C2, hV⟩ : ∃ V, V = A1.alloc (.cells #[.int .u64 0, .int .u64 0, .int .u64 0, .int .u64 0] 39) := ⟨_, rfl⟩
      rw [← hV]
      have HYC2 : Hid (RB w w4.heap.size C2) := Lib.hid (by rw [hV]; exact HYA1.out.nxt ((Below.refl _ _).alloc (Nat.le_refl _) _))
      have HBC2 : Hid (Below (w.heap.size + 1) (w.alloc (.cells #[.int .u64 0, .int .u64 0, .int .u64 0, .int .u64 0] 39)) C2) := Lib.hid (by rw [hV]; exact HBA1.out.trans (((Below.refl _ _).alloc (Nat.le_refl _) _).mono (bsz HBA1.out)))
      have HGC2 : Hid (C2.heap[A1.heap.size]? = some (.cells #[.int .u64 0, .int .u64 0, .int .u64 0, .int .u64 0] 39)) := Lib.hid (by rw [hV]; exact alloc_last4 _ _)
      have hg8 : w4.heap.size + 1 + 1 + 1 < A1.heap.size := lt_blk HYA1.out.2.2.2.2.2
      have hg9 : w.heap.size + 1 ≤ w4.heap.size := HYA1.out.2.1
      clear hV
      refine hK' _ _ ⟨HYC2.out, ?_⟩
      clear hK'
      refine wpAnyH_all (rs := [4]) (by kernel_rfl) (by simp) ?_
      intro ii hii
      rw [List.mem_singleton] at hii
      subst hii
      refine wpOp_step (by rfl) ?_
      intro K' hK'
      go_simp
      go_at_call 25
      refine (Y2 _).out.mono ?_
      rintro e C3 ⟨rfl, hbc⟩
      have HYC3 := Lib.hid (HYC2.out.nxt hbc)
      have HBC3 := Lib.hid (HBC2.out.trans (hbc.mono (bsz HBC2.out)))
      have HGC3 := Lib.hid ((hbc.block _ (lt_blk HGC2.out)).trans HGC2.out)
      clear hbc
      unfold SV
      refine hK' _ _ ⟨HYC3.out, ?_⟩
      clear hK'
      obtain ⟨⟨t0, t1, t2, t3⟩, ⟨u0, u1, u2, u3⟩, uz⟩ := blk4f HGC3.out
      refine wpAnyH_all (rs := [6]) (by kernel_rfl) (by simp) ?_
      intro ii hii
      rw [List.mem_singleton] at hii
      subst hii
      refine wpOp_step (by rfl) ?_
      intro K' hK'
      go_simp
      obtain ⟨C3s, hV⟩ : ∃ V, V = (((C3.setCell ⟨A1.heap.size, 0, none⟩ (.int .u64 (sw (orP (orP (rng 97 122) (rng 65 90)) (rng 48 57)) 0 : Nat))).setCell ⟨A1.heap.size, 1, none⟩ (.int .u64 (sw (orP (orP (rng 97 122) (rng 65 90)) (rng 48 57)) 1 : Nat))).setCell ⟨A1.heap.size, 2, none⟩ (.int .u64 (sw (orP (orP (rng 97 122) (rng 65 90)) (rng 48 57)) 2 : Nat))).setCell ⟨A1.heap.size, 3, none⟩ (.int .u64 (sw (orP (orP (rng 97 122) (rng 65 90)) (rng 48 57)) 3 : Nat)) := ⟨_, rfl⟩
      rw [← hV]
      have HYC3s : Hid (RB w w4.heap.size C3s) := Lib.hid (by rw [hV]; exact (((HYC3.out.set _ 0 _ (Or.inr hg8)).set _ 1 _ (Or.inr hg8)).set _ 2 _ (Or.inr hg8)).set _ 3 _ (Or.inr hg8))
      have HBC3s : Hid (Below (w.heap.size + 1) (w.alloc (.cells #[.int .u64 0, .int .u64 0, .int .u64 0, .int .u64 0] 39)) C3s) := Lib.hid (by rw [hV]; exact (((HBC3.out.setCell (by simp; omega) _).setCell (by simp; omega) _).setCell (by simp; omega) _).setCell (by simp; omega) _)
      have HRC3s : Hid (Row4 C3s A1.heap.size 0 (orP (orP (rng 97 122) (rng 65 90)) (rng 48 57))) := Lib.hid (by rw [hV]; exact row4_put (p := noP) (orP (orP (rng 97 122) (rng 65 90)) (rng 48 57)) (row_no t0 t1 t2 t3))
      have hgz : A1.heap.size < C3s.heap.size := by rw [hV]; simpa using uz
      clear hV t0 t1 t2 t3 u0 u1 u2 u3 uz
      refine hK' _ _ ⟨HYC3s.out, ?_⟩
      clear hK'
      refine wpAnyH_done (by kernel_rfl) ?_ _
      obtain ⟨hF0, _, hF1, hF2, hF3, hF4⟩ := HYC3s.out
      obtain ⟨⟨a0, a1, a2, a3⟩, _⟩ := blk4 hF1
      obtain ⟨⟨b0, b1, b2, b3⟩, _⟩ := blk4 hF2
      obtain ⟨⟨c0, c1, c2, c3⟩, _⟩ := blk4 hF3
      obtain ⟨⟨d0, d1, d2, d3⟩, _⟩ := blk4 hF4
      clear hF0 hF1 hF2 hF3 hF4
      obtain ⟨e0, e1', e2', e3'⟩ := HRC3s.out
      have e1 : C3s.cell? ⟨A1.heap.size, 1, none⟩ = some (.int .u64 (sw (orP (orP (rng 97 122) (rng 65 90)) (rng 48 57)) 1 : Nat)) := e1'
      have e2 : C3s.cell? ⟨A1.heap.size, 2, none⟩ = some (.int .u64 (sw (orP (orP (rng 97 122) (rng 65 90)) (rng 48 57)) 2 : Nat)) := e2'
      have e3 : C3s.cell? ⟨A1.heap.size, 3, none⟩ = some (.int .u64 (sw (orP (orP (rng 97 122) (rng 65 90)) (rng 48 57)) 3 : Nat)) := e3'
      clear e1' e2' e3'
      obtain ⟨r0, r1, r2, r3, s0, s1, s2, s3, rz⟩ := res_facts HBC3s.out (Nat.lt_succ_self _)
      go_wp2
      exact bodyPost_ret (by simp [results, Tryd.results38, go_sem, r0, r1, r2, r3]; rfl) rfl ⟨rfl, res_below HBC3s.out _ _ _ _⟩
  · skip
    refine wpOp_step (by rfl) ?_
    intro K' hK'
    go_simp
    obtain ⟨D1, hV⟩ : ∃ V, V = X0.alloc (.cells #[.int .u64 0, .int .u64 0, .int .u64 0, .int .u64 0] 39) := ⟨_, rfl⟩
    rw [← hV]
    have HYD1 : Hid (RB w w4.heap.size D1) := Lib.hid (by rw [hV]; exact HYX0.out.nxt ((Below.refl _ _).alloc (Nat.le_refl _) _))
    have HBD1 : Hid (Below (w.heap.size + 1) (w.alloc (.cells #[.int .u64 0, .int .u64 0, .int .u64 0, .int .u64 0] 39)) D1) := Lib.hid (by rw [hV]; exact HBX0.out.trans (((Below.refl _ _).alloc (Nat.le_refl _) _).mono (bsz HBX0.out)))
    have HGD1 : Hid (D1.heap[X0.heap.size]? = some (.cells #[.int .u64 0, .int .u64 0, .int .u64 0, .int .u64 0] 39)) := Lib.hid (by rw [hV]; exact alloc_last4 _ _)
    have hg8 : w4.heap.size + 1 + 1 + 1 < X0.heap.size := lt_blk HYX0.out.2.2.2.2.2
    have hg9 : w.heap.size + 1 ≤ w4.heap.size := HYX0.out.2.1
    clear hV
    refine hK' _ _ ⟨HYD1.out, ?_⟩
    clear hK'
    refine wpAnyH_all (rs := [2]) (by kernel_rfl) (by simp) ?_
    intro ii hii
    rw [List.mem_singleton] at hii
    subst hii
    refine wpOp_step (by rfl) ?_
    intro K' hK'
    go_simp
    go_at_call 25
    refine (Y1 _).out.mono ?_
    rintro e D2 ⟨rfl, hbc⟩
    have HYD2 := Lib.hid (HYD1.out.nxt hbc)
    have HBD2 := Lib.hid (HBD1.out.trans (hbc.mono (bsz HBD1.out)))
    have HGD2 := Lib.hid ((hbc.block _ (lt_blk HGD1.out)).trans HGD1.out)
    clear hbc
    unfold SV
    refine hK' _ _ ⟨HYD2.out, ?_⟩
    clear hK'
    refine wpAnyH_all (rs := [4]) (by kernel_rfl) (by simp) ?_
    intro ii hii
    rw [List.mem_singleton] at hii
    subst hii
    refine wpOp_step (by rfl) ?_
    intro K' hK'
    go_simp
    go_at_call 25
    refine (Y2 _).out.mono ?_
    rintro e D3 ⟨rfl, hbc⟩
    have HYD3 := Lib.hid (HYD2.out.nxt hbc)
    have HBD3 := Lib.hid (HBD2.out.trans (hbc.mono (bsz HBD2.out)))
    have HGD3 := Lib.hid ((hbc.block _ (lt_blk HGD2.out)).trans HGD2.out)
    clear hbc
    unfold SV
    refine hK' _ _ ⟨HYD3.out, ?_⟩
    clear hK'
    obtain ⟨⟨t0, t1, t2, t3⟩, ⟨u0, u1, u2, u3⟩, uz⟩ := blk4f HGD3.out
    refine wpAnyH_all (rs := [6]) (by kernel_rfl) (by simp) ?_
    intro ii hii
    rw [List.mem_singleton] at hii
    subst hii
    refine wpOp_step (by rfl) ?_
    intro K' hK'
    go_simp
    obtain ⟨D3s, hV⟩ : ∃ V, V = (((D3.setCell ⟨X0.heap.size, 0, none⟩ (.int .u64 (sw (orP (orP (rng 97 122) (rng 65 90)) (rng 48 57)) 0 : Nat))).setCell ⟨X0.heap.size, 1, none⟩ (.int .u64 (sw (orP (orP (rng 97 122) (rng 65 90)) (rng 48 57)) 1 : Nat))).setCell ⟨X0.heap.size, 2, none⟩ (.int .u64 (sw (orP (orP (rng 97 122) (rng 65 90)) (rng 48 57)) 2 : Nat))).setCell ⟨X0.heap.size, 3, none⟩ (.int .u64 (sw (orP (orP (rng 97 122) (rng 65 90)) (rng 48 57)) 3 : Nat)) := ⟨_, rfl⟩
    rw [← hV]
    have HYD3s : Hid (RB w w4.heap.size D3s) := Lib.hid (by rw [hV]; exact (((HYD3.out.set _ 0 _ (Or.inr hg8)).set _ 1 _ (Or.inr hg8)).set _ 2 _ (Or.inr hg8)).set _ 3 _ (Or.inr hg8))
    have HBD3s : Hid (Below (w.heap.size + 1) (w.alloc (.cells #[.int .u64 0, .int .u64 0, .int .u64 0, .int .u64 0] 39)) D3s) := Lib.hid (by rw [hV]; exact (((HBD3.out.setCell (by simp; omega) _).setCell (by simp; omega) _).setCell (by simp; omega) _).setCell (by simp; omega) _)
    have HRD3s : Hid (Row4 D3s X0.heap.size 0 (orP (orP (rng 97 122) (rng 65 90)) (rng 48 57))) := Lib.hid (by rw [hV]; exact row4_put (p := noP) (orP (orP (rng 97 122) (rng 65 90)) (rng 48 57)) (row_no t0 t1 t2 t3))
    have hgz : X0.heap.size < D3s.heap.size := by rw [hV]; simpa using uz
    clear hV t0 t1 t2 t3 u0 u1 u2 u3 uz
    refine hK' _ _ ⟨HYD3s.out, ?_⟩
    clear hK'
    refine wpAnyH_done (by kernel_rfl) ?_ _
    obtain ⟨hF0, _, hF1, hF2, hF3, hF4⟩ := HYD3s.out
    obtain ⟨⟨a0, a1, a2, a3⟩, _⟩ := blk4 hF1
    obtain ⟨⟨b0, b1, b2, b3⟩, _⟩ := blk4 hF2
    obtain ⟨⟨c0, c1, c2, c3⟩, _⟩ := blk4 hF3
    obtain ⟨⟨d0, d1, d2, d3⟩, _⟩ := blk4 hF4
    clear hF0 hF1 hF2 hF3 hF4
    obtain ⟨e0, e1', e2', e3'⟩ := HRD3s.out
    have e1 : D3s.cell? ⟨X0.heap.size, 1, none⟩ = some (.int .u64 (sw (orP (orP (rng 97 122) (rng 65 90)) (rng 48 57)) 1 : Nat)) := e1'
    have e2 : D3s.cell? ⟨X0.heap.size, 2, none⟩ = some (.int .u64 (sw (orP (orP (rng 97 122) (rng 65 90)) (rng 48 57)) 2 : Nat)) := e2'
    have e3 : D3s.cell? ⟨X0.heap.size, 3, none⟩ = some (.int .u64 (sw (orP (orP (rng 97 122) (rng 65 90)) (rng 48 57)) 3 : Nat)) := e3'
    clear e1' e2' e3'
    obtain ⟨r0, r1, r2, r3, s0, s1, s2, s3, rz⟩ := res_facts HBD3s.out (Nat.lt_succ_self _)
    go_wp2
    exact bodyPost_ret (by simp [results, Tryd.results38, go_sem, r0, r1, r2, r3]; rfl) rfl ⟨rfl, res_below HBD3s.out _ _ _ _⟩
end Go.Proofs.YtoodpajbefffhaaDoor
