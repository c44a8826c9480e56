import Derived.Test.YtnpkcllbpnmabaaGreatDoorKSet
import Derived.Laws.StructEq
namespace Go.Proofs.YtnpkcllbpnmabaaGreatDoor
set_option maxHeartbeats 8000000
set_option maxRecDepth 100000
open Go.RowKit
theorem u64_info : (Tryz.prog.info? 52).map (fun i => (i.zero, i.size, i.bytes)) = some (some (.int .u64 0), 1, 8) := by kernel_rfl
theorem eq_arr (d : Nat) (x0 x1 x2 x3 y0 y1 y2 y3 : Int) (w : World) :
  (Op.equalIn (d + 1 + 1) 54 (.agg #[.int .u64 x0, .int .u64 x1, .int .u64 x2, .int .u64 x3]) (.agg #[.int .u64 y0, .int .u64 y1, .int .u64 y2, .int .u64 y3])).run Tryz.prog w =
   .ok ((x0 == y0) && ((x1 == y1) && ((x2 == y2) && (x3 == y3)))) w := by
 obtain ⟨i0, hi, hz0, hz1, hz2⟩ := info_parts u64_info
 have hs : ∀ w, (sizeOf 52).run Tryz.prog w = .ok 1 w := fun w => by simp [sizeOf, typeInfo, hi, hz1]
 have he : ∀ (a b : Int) (w : World), (Op.equalIn (d + 1) 52 (.int .u64 a) (.int .u64 b)).run Tryz.prog w = .ok (a == b) w := fun a b w => run_equalIn_int w d _ .u64 .u64 a b Tryz.underlying52
 have hp : ∀ (a b c e : Value) (w : World), (part 52 #[a, b, c, e] 0).run Tryz.prog w = .ok a w ∧ (part 52 #[a, b, c, e] 1).run Tryz.prog w = .ok b w ∧ (part 52 #[a, b, c, e] 2).run Tryz.prog w = .ok c w ∧ (part 52 #[a, b, c, e] 3).run Tryz.prog w = .ok e w := fun a b c e w => ⟨by kernel_rfl, by kernel_rfl, by kernel_rfl, by kernel_rfl⟩
 rw [Op.equalIn]
 simp only [Sem.run_bind, run_underlying Tryz.underlying54, Result.andThen_ok, hs]
 rw [Std.Legacy.Range.forIn_eq_forIn_range']
 simp [Std.Legacy.Range.size, List.range', hp, he, Sem.run_bind, Sem.run_ite]
 cases h0 : (x0 == y0) <;> cases h1 : (x1 == y1) <;> cases h2 : (x2 == y2) <;> cases h3 : (x3 == y3) <;> simp_all
def anyS (p : Nat → Bool) : Bool := !((((sw p 0 : Nat) : Int) == 0) && ((((sw p 1 : Nat) : Int) == 0) && ((((sw p 2 : Nat) : Int) == 0) && (((sw p 3 : Nat) : Int) == 0))))
theorem class_of (nm : ByteArray) (p : Nat → Bool) (hn : ∀ w, Calls Tryz.prog 110 #[.string nm] w fun e w' => e = .returned (SV p) ∧ Below w.heap.size w w') (w : World) :
  Calls Tryz.prog 108 #[.string nm] w fun e w' => e = .returned (.tuple #[SV p, .bool (anyS p)]) ∧ Below w.heap.size w w' := by
 have HN := Lib.hid hn
 clear hn
 obtain ⟨b, hb⟩ : ∃ b, b = anyS p := ⟨_, rfl⟩
 rw [← hb]
 have he : ∀ w, (Op.equalIn 10000 54 (.agg #[.int .u64 (sw p 0 : Nat), .int .u64 (sw p 1 : Nat), .int .u64 (sw p 2 : Nat), .int .u64 (sw p 3 : Nat)]) (.agg #[.int .u64 0, .int .u64 0, .int .u64 0, .int .u64 0])).run Tryz.prog w = .ok (!b) w := fun w => by
  rw [hb]
  unfold anyS
  rw [Bool.not_not]
  exact eq_arr 9998 _ _ _ _ _ _ _ _ w
 clear hb
 go_enter Tryz.func108, Tryz.ntmps108
 go_wp2_with fail
 refine (HN.out _).mono ?_
 rintro e w1 ⟨rfl, hb1⟩
 have HB := Lib.hid (hb1.mono (show w.heap.size + 1 ≤ (w.alloc (.cells #[.int .u64 0, .int .u64 0, .int .u64 0, .int .u64 0] 54)).heap.size by simp))
 clear hb1
 obtain ⟨c0, c1, c2, c3, g0, g1, g2, g3, hz⟩ := res_facts HB.out (Nat.lt_succ_self _)
 unfold SV
 go_wp2
 go_region
 all_goals
  go_wp2
  exact bodyPost_ret (by simp [results, Tryz.results108, go_sem, World.cell?_alloc_lt, hz, c0, c1, c2, c3]; rfl) rfl ⟨rfl, (((res_below HB.out _ _ _ _).alloc (by simp; exact Nat.le_of_lt hz) _).drew)⟩
theorem named_other (nm : ByteArray) (n_alpha : (nm.toList == [97, 108, 112, 104, 97]) = false) (n_digit : (nm.toList == [100, 105, 103, 105, 116]) = false) (n_alnum : (nm.toList == [97, 108, 110, 117, 109]) = false) (n_upper : (nm.toList == [117, 112, 112, 101, 114]) = false) (n_lower : (nm.toList == [108, 111, 119, 101, 114]) = false) (n_space : (nm.toList == [115, 112, 97, 99, 101]) = false) (n_blank : (nm.toList == [98, 108, 97, 110, 107]) = false) (n_print : (nm.toList == [112, 114, 105, 110, 116]) = false) (n_graph : (nm.toList == [103, 114, 97, 112, 104]) = false) (n_punct : (nm.toList == [112, 117, 110, 99, 116]) = false) (n_cntrl : (nm.toList == [99, 110, 116, 114, 108]) = false) (n_xdigit : (nm.toList == [120, 100, 105, 103, 105, 116]) = false) (w : World) :
  Calls Tryz.prog 110 #[.string nm] w fun e w' => e = .returned (SV noP) ∧ Below w.heap.size w w' := by
 rw [SV_of (p := noP) (sw_zero 0).symm (sw_zero 1).symm (sw_zero 2).symm (sw_zero 3).symm]
 go_enter Tryz.func110, Tryz.ntmps110
 go_wp2
 exact bodyPost_ret (by simp [results, Tryz.results110, go_sem]) rfl ⟨rfl, ((Below.refl _ _).alloc (Nat.le_refl _) _).alloc (by simp) _⟩
def cls_upper (c : Nat) : Bool := rng 65 90 c
theorem named_upper (w : World) :
  Calls Tryz.prog 110 #[.string ⟨#[117, 112, 112, 101, 114]⟩] w fun e w' => e = .returned (SV cls_upper) ∧ Below w.heap.size w w' := by
 have HX0 : ∀ w, Hid (Calls Tryz.prog 105 #[.int .u8 65, .int .u8 90] w fun e w' => e = .returned (SV (rng 65 90)) ∧ Below w.heap.size w w') := fun w => Lib.hid (range_any 65 90 (by omega) (by omega) w)
 go_enter Tryz.func110, Tryz.ntmps110
 go_wp2_with fail
 have HN0 : Hid (NS w _ noP) := Lib.hid (NS.start w)
 obtain ⟨V, hV⟩ : ∃ V, V = (w.alloc (.cells #[.int .u64 0, .int .u64 0, .int .u64 0, .int .u64 0] 54)).alloc (.cells #[.int .u64 0, .int .u64 0, .int .u64 0, .int .u64 0] 54) := ⟨_, rfl⟩
 rw [← hV] at HN0 ⊢
 clear hV
 obtain ⟨⟨r0, r1, r2, r3⟩, ⟨f0, f1, f2, f3⟩, ⟨c0, c1, c2, c3, g0, g1, g2, g3, z0⟩, z1⟩ := HN0.out.facts
 refine (HX0 _).out.mono ?_
 rintro e w01 ⟨rfl, hbw01⟩
 have HNw01 := Lib.hid (HN0.out.next hbw01)
 clear hbw01
 obtain ⟨⟨w01_r0, w01_r1, w01_r2, w01_r3⟩, ⟨w01_f0, w01_f1, w01_f2, w01_f3⟩, ⟨w01_c0, w01_c1, w01_c2, w01_c3, w01_g0, w01_g1, w01_g2, w01_g3, w01_z0⟩, w01_z1⟩ := HNw01.out.facts
 unfold SV
 go_wp2
 exact bodyPost_ret (by simp [results, Tryz.results110, go_sem, w01_c0, w01_c1, w01_c2, w01_c3]; rfl) rfl ⟨by first | rfl | exact congrArg Ending.returned (SV_congr fun c _ => by simp [cls_upper, orP, lessP, noP]), res_below HNw01.out.1 _ _ _ _⟩
def cls_digit (c : Nat) : Bool := rng 48 57 c
theorem named_digit (w : World) :
  Calls Tryz.prog 110 #[.string ⟨#[100, 105, 103, 105, 116]⟩] w fun e w' => e = .returned (SV cls_digit) ∧ Below w.heap.size w w' := by
 have HX0 : ∀ w, Hid (Calls Tryz.prog 105 #[.int .u8 48, .int .u8 57] w fun e w' => e = .returned (SV (rng 48 57)) ∧ Below w.heap.size w w') := fun w => Lib.hid (range_any 48 57 (by omega) (by omega) w)
 go_enter Tryz.func110, Tryz.ntmps110
 go_wp2_with fail
 have HN0 : Hid (NS w _ noP) := Lib.hid (NS.start w)
 obtain ⟨V, hV⟩ : ∃ V, V = (w.alloc (.cells #[.int .u64 0, .int .u64 0, .int .u64 0, .int .u64 0] 54)).alloc (.cells #[.int .u64 0, .int .u64 0, .int .u64 0, .int .u64 0] 54) := ⟨_, rfl⟩
 rw [← hV] at HN0 ⊢
 clear hV
 obtain ⟨⟨r0, r1, r2, r3⟩, ⟨f0, f1, f2, f3⟩, ⟨c0, c1, c2, c3, g0, g1, g2, g3, z0⟩, z1⟩ := HN0.out.facts
 go_region_with (first
  | (go_at_call 105; refine (HX0 _).out.mono ?_; rintro e w01 ⟨rfl, hbw01⟩; have HNw01 := Lib.hid (HN0.out.drew.next hbw01); obtain ⟨⟨w01_r0, w01_r1, w01_r2, w01_r3⟩, ⟨w01_f0, w01_f1, w01_f2, w01_f3⟩, ⟨w01_c0, w01_c1, w01_c2, w01_c3, w01_g0, w01_g1, w01_g2, w01_g3, w01_z0⟩, w01_z1⟩ := HNw01.out.facts; unfold SV)
  | (go_at_call 98; refine (unionL _ noP (rng 48 57) _).mono ?_; rintro e w02 ⟨rfl, hbw02⟩; have HNw02 := Lib.hid (HNw01.out.next hbw02); obtain ⟨⟨w02_r0, w02_r1, w02_r2, w02_r3⟩, ⟨w02_f0, w02_f1, w02_f2, w02_f3⟩, ⟨w02_c0, w02_c1, w02_c2, w02_c3, w02_g0, w02_g1, w02_g2, w02_g3, w02_z0⟩, w02_z1⟩ := HNw02.out.facts; unfold SV))
 all_goals
  go_wp2
  exact bodyPost_ret (by simp [results, Tryz.results110, go_sem, w02_c0, w02_c1, w02_c2, w02_c3]; rfl) rfl ⟨by first | rfl | exact congrArg Ending.returned (SV_congr fun c _ => by simp [cls_digit, orP, lessP, noP]), res_below HNw02.out.1 _ _ _ _⟩
def cls_alnum (c : Nat) : Bool := (rng 48 57 c || rng 65 90 c) || rng 97 122 c
theorem named_alnum (w : World) :
  Calls Tryz.prog 110 #[.string ⟨#[97, 108, 110, 117, 109]⟩] w fun e w' => e = .returned (SV cls_alnum) ∧ Below w.heap.size w w' := by
 have HX0 : ∀ w, Hid (Calls Tryz.prog 110 #[.string ⟨#[100, 105, 103, 105, 116]⟩] w fun e w' => e = .returned (SV cls_digit) ∧ Below w.heap.size w w') := fun w => Lib.hid (named_digit w)
 have HX1 : ∀ w, Hid (Calls Tryz.prog 110 #[.string ⟨#[117, 112, 112, 101, 114]⟩] w fun e w' => e = .returned (SV cls_upper) ∧ Below w.heap.size w w') := fun w => Lib.hid (named_upper w)
 have HX2 : ∀ w, Hid (Calls Tryz.prog 105 #[.int .u8 97, .int .u8 122] w fun e w' => e = .returned (SV (rng 97 122)) ∧ Below w.heap.size w w') := fun w => Lib.hid (range_any 97 122 (by omega) (by omega) w)
 go_enter Tryz.func110, Tryz.ntmps110
 go_wp2_with fail
 have HN0 : Hid (NS w _ noP) := Lib.hid (NS.start w)
 obtain ⟨V, hV⟩ : ∃ V, V = (w.alloc (.cells #[.int .u64 0, .int .u64 0, .int .u64 0, .int .u64 0] 54)).alloc (.cells #[.int .u64 0, .int .u64 0, .int .u64 0, .int .u64 0] 54) := ⟨_, rfl⟩
 rw [← hV] at HN0 ⊢
 clear hV
 obtain ⟨⟨r0, r1, r2, r3⟩, ⟨f0, f1, f2, f3⟩, ⟨c0, c1, c2, c3, g0, g1, g2, g3, z0⟩, z1⟩ := HN0.out.facts
 refine (HX0 _).out.mono ?_
 rintro e w01 ⟨rfl, hbw01⟩
 have HNw01 := Lib.hid (HN0.out.next hbw01)
 clear hbw01
 obtain ⟨⟨w01_r0, w01_r1, w01_r2, w01_r3⟩, ⟨w01_f0, w01_f1, w01_f2, w01_f3⟩, ⟨w01_c0, w01_c1, w01_c2, w01_c3, w01_g0, w01_g1, w01_g2, w01_g3, w01_z0⟩, w01_z1⟩ := HNw01.out.facts
 unfold SV
 go_wp2
 obtain ⟨V0, hV0⟩ : ∃ V, V = (((w01.setCell ⟨w.heap.size + 1, 0, none⟩ (.int .u64 (sw cls_digit 0 : Nat))).setCell ⟨w.heap.size + 1, 1, none⟩ (.int .u64 (sw cls_digit 1 : Nat))).setCell ⟨w.heap.size + 1, 2, none⟩ (.int .u64 (sw cls_digit 2 : Nat))).setCell ⟨w.heap.size + 1, 3, none⟩ (.int .u64 (sw cls_digit 3 : Nat)) := ⟨_, rfl⟩
 have HM0 := Lib.hid (HNw01.out.put cls_digit)
 rw [← hV0] at HM0
 rw [← hV0]
 clear hV0
 obtain ⟨⟨v0_r0, v0_r1, v0_r2, v0_r3⟩, ⟨v0_f0, v0_f1, v0_f2, v0_f3⟩, ⟨v0_c0, v0_c1, v0_c2, v0_c3, v0_g0, v0_g1, v0_g2, v0_g3, v0_z0⟩, v0_z1⟩ := HM0.out.facts
 go_region_with (first
  | (go_at_call 110; refine (HX1 _).out.mono ?_; rintro e w11 ⟨rfl, hbw11⟩; have HNw11 := Lib.hid (HM0.out.drew.next hbw11); obtain ⟨⟨w11_r0, w11_r1, w11_r2, w11_r3⟩, ⟨w11_f0, w11_f1, w11_f2, w11_f3⟩, ⟨w11_c0, w11_c1, w11_c2, w11_c3, w11_g0, w11_g1, w11_g2, w11_g3, w11_z0⟩, w11_z1⟩ := HNw11.out.facts; unfold SV)
  | (go_at_call 98; refine (unionL _ cls_digit cls_upper _).mono ?_; rintro e w12 ⟨rfl, hbw12⟩; have HNw12 := Lib.hid (HNw11.out.next hbw12); obtain ⟨⟨w12_r0, w12_r1, w12_r2, w12_r3⟩, ⟨w12_f0, w12_f1, w12_f2, w12_f3⟩, ⟨w12_c0, w12_c1, w12_c2, w12_c3, w12_g0, w12_g1, w12_g2, w12_g3, w12_z0⟩, w12_z1⟩ := HNw12.out.facts; unfold SV))
 all_goals
  obtain ⟨V1, hV1⟩ : ∃ V, V = (((w12.setCell ⟨w.heap.size + 1, 0, none⟩ (.int .u64 (sw (orP cls_digit cls_upper) 0 : Nat))).setCell ⟨w.heap.size + 1, 1, none⟩ (.int .u64 (sw (orP cls_digit cls_upper) 1 : Nat))).setCell ⟨w.heap.size + 1, 2, none⟩ (.int .u64 (sw (orP cls_digit cls_upper) 2 : Nat))).setCell ⟨w.heap.size + 1, 3, none⟩ (.int .u64 (sw (orP cls_digit cls_upper) 3 : Nat)) := ⟨_, rfl⟩
  have HM1 := Lib.hid (HNw12.out.put (orP cls_digit cls_upper))
  rw [← hV1] at HM1
  go_wp2
  rw [← hV1]
  clear hV1
  obtain ⟨⟨v1_r0, v1_r1, v1_r2, v1_r3⟩, ⟨v1_f0, v1_f1, v1_f2, v1_f3⟩, ⟨v1_c0, v1_c1, v1_c2, v1_c3, v1_g0, v1_g1, v1_g2, v1_g3, v1_z0⟩, v1_z1⟩ := HM1.out.facts
  go_region_with (first
   | (go_at_call 105; refine (HX2 _).out.mono ?_; rintro e w21 ⟨rfl, hbw21⟩; have HNw21 := Lib.hid (HM1.out.drew.next hbw21); obtain ⟨⟨w21_r0, w21_r1, w21_r2, w21_r3⟩, ⟨w21_f0, w21_f1, w21_f2, w21_f3⟩, ⟨w21_c0, w21_c1, w21_c2, w21_c3, w21_g0, w21_g1, w21_g2, w21_g3, w21_z0⟩, w21_z1⟩ := HNw21.out.facts; unfold SV)
   | (go_at_call 98; refine (unionL _ (orP cls_digit cls_upper) (rng 97 122) _).mono ?_; rintro e w22 ⟨rfl, hbw22⟩; have HNw22 := Lib.hid (HNw21.out.next hbw22); obtain ⟨⟨w22_r0, w22_r1, w22_r2, w22_r3⟩, ⟨w22_f0, w22_f1, w22_f2, w22_f3⟩, ⟨w22_c0, w22_c1, w22_c2, w22_c3, w22_g0, w22_g1, w22_g2, w22_g3, w22_z0⟩, w22_z1⟩ := HNw22.out.facts; unfold SV))
  all_goals
   go_wp2
   exact bodyPost_ret (by simp [results, Tryz.results110, go_sem, w22_c0, w22_c1, w22_c2, w22_c3]; rfl) rfl ⟨by first | rfl | exact congrArg Ending.returned (SV_congr fun c _ => by simp [cls_alnum, orP, lessP, noP]), res_below HNw22.out.1 _ _ _ _⟩
def cls_lower (c : Nat) : Bool := rng 97 122 c
theorem named_lower (w : World) :
  Calls Tryz.prog 110 #[.string ⟨#[108, 111, 119, 101, 114]⟩] w fun e w' => e = .returned (SV cls_lower) ∧ Below w.heap.size w w' := by
 have HX0 : ∀ w, Hid (Calls Tryz.prog 105 #[.int .u8 97, .int .u8 122] w fun e w' => e = .returned (SV (rng 97 122)) ∧ Below w.heap.size w w') := fun w => Lib.hid (range_any 97 122 (by omega) (by omega) w)
 go_enter Tryz.func110, Tryz.ntmps110
 go_wp2_with fail
 have HN0 : Hid (NS w _ noP) := Lib.hid (NS.start w)
 obtain ⟨V, hV⟩ : ∃ V, V = (w.alloc (.cells #[.int .u64 0, .int .u64 0, .int .u64 0, .int .u64 0] 54)).alloc (.cells #[.int .u64 0, .int .u64 0, .int .u64 0, .int .u64 0] 54) := ⟨_, rfl⟩
 rw [← hV] at HN0 ⊢
 clear hV
 obtain ⟨⟨r0, r1, r2, r3⟩, ⟨f0, f1, f2, f3⟩, ⟨c0, c1, c2, c3, g0, g1, g2, g3, z0⟩, z1⟩ := HN0.out.facts
 go_region_with (first
  | (go_at_call 105; refine (HX0 _).out.mono ?_; rintro e w01 ⟨rfl, hbw01⟩; have HNw01 := Lib.hid (HN0.out.drew.next hbw01); obtain ⟨⟨w01_r0, w01_r1, w01_r2, w01_r3⟩, ⟨w01_f0, w01_f1, w01_f2, w01_f3⟩, ⟨w01_c0, w01_c1, w01_c2, w01_c3, w01_g0, w01_g1, w01_g2, w01_g3, w01_z0⟩, w01_z1⟩ := HNw01.out.facts; unfold SV)
  | (go_at_call 98; refine (unionL _ noP (rng 97 122) _).mono ?_; rintro e w02 ⟨rfl, hbw02⟩; have HNw02 := Lib.hid (HNw01.out.next hbw02); obtain ⟨⟨w02_r0, w02_r1, w02_r2, w02_r3⟩, ⟨w02_f0, w02_f1, w02_f2, w02_f3⟩, ⟨w02_c0, w02_c1, w02_c2, w02_c3, w02_g0, w02_g1, w02_g2, w02_g3, w02_z0⟩, w02_z1⟩ := HNw02.out.facts; unfold SV))
 all_goals
  go_wp2
  exact bodyPost_ret (by simp [results, Tryz.results110, go_sem, w02_c0, w02_c1, w02_c2, w02_c3]; rfl) rfl ⟨by first | rfl | exact congrArg Ending.returned (SV_congr fun c _ => by simp [cls_lower, orP, lessP, noP]), res_below HNw02.out.1 _ _ _ _⟩
def cls_space (c : Nat) : Bool := rng 10 13 c || mem [32, 9] c
theorem named_space (w : World) :
  Calls Tryz.prog 110 #[.string ⟨#[115, 112, 97, 99, 101]⟩] w fun e w' => e = .returned (SV cls_space) ∧ Below w.heap.size w w' := by
 have HX0 : ∀ w, Hid (Calls Tryz.prog 105 #[.int .u8 10, .int .u8 13] w fun e w' => e = .returned (SV (rng 10 13)) ∧ Below w.heap.size w w') := fun w => Lib.hid (range_any 10 13 (by omega) (by omega) w)
 have HX1 : ∀ w, Hid (Calls Tryz.prog 73 #[.string ⟨#[32, 9]⟩] w fun e w' => e = .returned (SV (mem [32, 9])) ∧ Below w.heap.size w w') := fun w => Lib.hid (of_any ⟨#[32, 9]⟩ w (by decide))
 go_enter Tryz.func110, Tryz.ntmps110
 go_wp2_with fail
 have HN0 : Hid (NS w _ noP) := Lib.hid (NS.start w)
 obtain ⟨V, hV⟩ : ∃ V, V = (w.alloc (.cells #[.int .u64 0, .int .u64 0, .int .u64 0, .int .u64 0] 54)).alloc (.cells #[.int .u64 0, .int .u64 0, .int .u64 0, .int .u64 0] 54) := ⟨_, rfl⟩
 rw [← hV] at HN0 ⊢
 clear hV
 obtain ⟨⟨r0, r1, r2, r3⟩, ⟨f0, f1, f2, f3⟩, ⟨c0, c1, c2, c3, g0, g1, g2, g3, z0⟩, z1⟩ := HN0.out.facts
 refine (HX0 _).out.mono ?_
 rintro e w01 ⟨rfl, hbw01⟩
 have HNw01 := Lib.hid (HN0.out.next hbw01)
 clear hbw01
 obtain ⟨⟨w01_r0, w01_r1, w01_r2, w01_r3⟩, ⟨w01_f0, w01_f1, w01_f2, w01_f3⟩, ⟨w01_c0, w01_c1, w01_c2, w01_c3, w01_g0, w01_g1, w01_g2, w01_g3, w01_z0⟩, w01_z1⟩ := HNw01.out.facts
 unfold SV
 go_wp2
 obtain ⟨V0, hV0⟩ : ∃ V, V = (((w01.setCell ⟨w.heap.size + 1, 0, none⟩ (.int .u64 (sw (rng 10 13) 0 : Nat))).setCell ⟨w.heap.size + 1, 1, none⟩ (.int .u64 (sw (rng 10 13) 1 : Nat))).setCell ⟨w.heap.size + 1, 2, none⟩ (.int .u64 (sw (rng 10 13) 2 : Nat))).setCell ⟨w.heap.size + 1, 3, none⟩ (.int .u64 (sw (rng 10 13) 3 : Nat)) := ⟨_, rfl⟩
 have HM0 := Lib.hid (HNw01.out.put (rng 10 13))
 rw [← hV0] at HM0
 rw [← hV0]
 clear hV0
 obtain ⟨⟨v0_r0, v0_r1, v0_r2, v0_r3⟩, ⟨v0_f0, v0_f1, v0_f2, v0_f3⟩, ⟨v0_c0, v0_c1, v0_c2, v0_c3, v0_g0, v0_g1, v0_g2, v0_g3, v0_z0⟩, v0_z1⟩ := HM0.out.facts
 go_region_with (first
  | (go_at_call 73; refine (HX1 _).out.mono ?_; rintro e w11 ⟨rfl, hbw11⟩; have HNw11 := Lib.hid (HM0.out.drew.next hbw11); obtain ⟨⟨w11_r0, w11_r1, w11_r2, w11_r3⟩, ⟨w11_f0, w11_f1, w11_f2, w11_f3⟩, ⟨w11_c0, w11_c1, w11_c2, w11_c3, w11_g0, w11_g1, w11_g2, w11_g3, w11_z0⟩, w11_z1⟩ := HNw11.out.facts; unfold SV)
  | (go_at_call 98; refine (unionL _ (rng 10 13) (mem [32, 9]) _).mono ?_; rintro e w12 ⟨rfl, hbw12⟩; have HNw12 := Lib.hid (HNw11.out.next hbw12); obtain ⟨⟨w12_r0, w12_r1, w12_r2, w12_r3⟩, ⟨w12_f0, w12_f1, w12_f2, w12_f3⟩, ⟨w12_c0, w12_c1, w12_c2, w12_c3, w12_g0, w12_g1, w12_g2, w12_g3, w12_z0⟩, w12_z1⟩ := HNw12.out.facts; unfold SV))
 all_goals
  go_wp2
  exact bodyPost_ret (by simp [results, Tryz.results110, go_sem, w12_c0, w12_c1, w12_c2, w12_c3]; rfl) rfl ⟨by first | rfl | exact congrArg Ending.returned (SV_congr fun c _ => by simp [cls_space, orP, lessP, noP]), res_below HNw12.out.1 _ _ _ _⟩
def cls_graph (c : Nat) : Bool := rng 33 126 c
theorem named_graph (w : World) :
  Calls Tryz.prog 110 #[.string ⟨#[103, 114, 97, 112, 104]⟩] w fun e w' => e = .returned (SV cls_graph) ∧ Below w.heap.size w w' := by
 have HX0 : ∀ w, Hid (Calls Tryz.prog 105 #[.int .u8 33, .int .u8 126] w fun e w' => e = .returned (SV (rng 33 126)) ∧ Below w.heap.size w w') := fun w => Lib.hid (range_any 33 126 (by omega) (by omega) w)
 go_enter Tryz.func110, Tryz.ntmps110
 go_wp2_with fail
 have HN0 : Hid (NS w _ noP) := Lib.hid (NS.start w)
 obtain ⟨V, hV⟩ : ∃ V, V = (w.alloc (.cells #[.int .u64 0, .int .u64 0, .int .u64 0, .int .u64 0] 54)).alloc (.cells #[.int .u64 0, .int .u64 0, .int .u64 0, .int .u64 0] 54) := ⟨_, rfl⟩
 rw [← hV] at HN0 ⊢
 clear hV
 obtain ⟨⟨r0, r1, r2, r3⟩, ⟨f0, f1, f2, f3⟩, ⟨c0, c1, c2, c3, g0, g1, g2, g3, z0⟩, z1⟩ := HN0.out.facts
 go_region_with (first
  | (go_at_call 105; refine (HX0 _).out.mono ?_; rintro e w01 ⟨rfl, hbw01⟩; have HNw01 := Lib.hid (HN0.out.drew.next hbw01); obtain ⟨⟨w01_r0, w01_r1, w01_r2, w01_r3⟩, ⟨w01_f0, w01_f1, w01_f2, w01_f3⟩, ⟨w01_c0, w01_c1, w01_c2, w01_c3, w01_g0, w01_g1, w01_g2, w01_g3, w01_z0⟩, w01_z1⟩ := HNw01.out.facts; unfold SV)
  | (go_at_call 98; refine (unionL _ noP (rng 33 126) _).mono ?_; rintro e w02 ⟨rfl, hbw02⟩; have HNw02 := Lib.hid (HNw01.out.next hbw02); obtain ⟨⟨w02_r0, w02_r1, w02_r2, w02_r3⟩, ⟨w02_f0, w02_f1, w02_f2, w02_f3⟩, ⟨w02_c0, w02_c1, w02_c2, w02_c3, w02_g0, w02_g1, w02_g2, w02_g3, w02_z0⟩, w02_z1⟩ := HNw02.out.facts; unfold SV))
 all_goals
  go_wp2
  exact bodyPost_ret (by simp [results, Tryz.results110, go_sem, w02_c0, w02_c1, w02_c2, w02_c3]; rfl) rfl ⟨by first | rfl | exact congrArg Ending.returned (SV_congr fun c _ => by simp [cls_graph, orP, lessP, noP]), res_below HNw02.out.1 _ _ _ _⟩
end Go.Proofs.YtnpkcllbpnmabaaGreatDoor
