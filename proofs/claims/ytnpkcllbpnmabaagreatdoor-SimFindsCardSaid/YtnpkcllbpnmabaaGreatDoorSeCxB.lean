import Derived.Test.YtnpkcllbpnmabaaGreatDoorKEq
import Derived.Test.YtnpkcllbpnmabaaGreatDoorKSet
import Derived.Test.YtnpkcllbpnmabaaGreatDoorKItx
namespace Go.Proofs.YtnpkcllbpnmabaaGreatDoor
set_option maxHeartbeats 8000000
set_option maxRecDepth 100000
open Go.RowKit
def cls_alpha (c : Nat) : Bool := rng 65 90 c || rng 97 122 c
theorem named_alpha (w : World) :
  Calls Tryz.prog 110 #[.string ⟨#[97, 108, 112, 104, 97]⟩] w fun e w' => e = .returned (SV cls_alpha) ∧ Below w.heap.size w w' := by
 have HX0 : ∀ w, Hid (Calls Tryz.prog 110 #[.string ⟨#[117, 112, 112, 101, 114]⟩] w fun e w' => e = .returned (SV cls_upper) ∧ Below w.heap.size w w') := fun w => Lib.hid (named_upper w)
 have HX1 : ∀ w, Hid (Calls Tryz.prog 105 #[.int .u8 97, .int .u8 122] w fun e w' => e = .returned (SV (rng 97 122)) ∧ Below w.heap.size w w') := fun w => Lib.hid (range_any 97 122 (by omega) (by omega) w)
 go_enter Tryz.func110, Tryz.ntmps110
 go_wp2_with fail
 have HN0 : Hid (NS w _ noP) := Lib.hid (NS.start w)
 obtain ⟨V, hV⟩ : ∃ V, V = (w.alloc (.cells #[.int .u64 0, .int .u64 0, .int .u64 0, .int .u64 0] 54)).alloc (.cells #[.int .u64 0, .int .u64 0, .int .u64 0, .int .u64 0] 54) := ⟨_, rfl⟩
 rw [← hV] at HN0 ⊢
 clear hV
 obtain ⟨⟨r0, r1, r2, r3⟩, ⟨f0, f1, f2, f3⟩, ⟨c0, c1, c2, c3, g0, g1, g2, g3, z0⟩, z1⟩ := HN0.out.facts
 go_region_with (first
  | (go_at_call 110; refine (HX0 _).out.mono ?_; rintro e w01 ⟨rfl, hbw01⟩; have HNw01 := Lib.hid (HN0.out.drew.next hbw01); obtain ⟨⟨w01_r0, w01_r1, w01_r2, w01_r3⟩, ⟨w01_f0, w01_f1, w01_f2, w01_f3⟩, ⟨w01_c0, w01_c1, w01_c2, w01_c3, w01_g0, w01_g1, w01_g2, w01_g3, w01_z0⟩, w01_z1⟩ := HNw01.out.facts; unfold SV)
  | (go_at_call 98; refine (unionL _ noP cls_upper _).mono ?_; rintro e w02 ⟨rfl, hbw02⟩; have HNw02 := Lib.hid (HNw01.out.next hbw02); obtain ⟨⟨w02_r0, w02_r1, w02_r2, w02_r3⟩, ⟨w02_f0, w02_f1, w02_f2, w02_f3⟩, ⟨w02_c0, w02_c1, w02_c2, w02_c3, w02_g0, w02_g1, w02_g2, w02_g3, w02_z0⟩, w02_z1⟩ := HNw02.out.facts; unfold SV))
 all_goals
  obtain ⟨V0, hV0⟩ : ∃ V, V = (((w02.setCell ⟨w.heap.size + 1, 0, none⟩ (.int .u64 (sw (orP noP cls_upper) 0 : Nat))).setCell ⟨w.heap.size + 1, 1, none⟩ (.int .u64 (sw (orP noP cls_upper) 1 : Nat))).setCell ⟨w.heap.size + 1, 2, none⟩ (.int .u64 (sw (orP noP cls_upper) 2 : Nat))).setCell ⟨w.heap.size + 1, 3, none⟩ (.int .u64 (sw (orP noP cls_upper) 3 : Nat)) := ⟨_, rfl⟩
  have HM0 := Lib.hid (HNw02.out.put (orP noP cls_upper))
  rw [← hV0] at HM0
  go_wp2
  rw [← hV0]
  clear hV0
  obtain ⟨⟨v0_r0, v0_r1, v0_r2, v0_r3⟩, ⟨v0_f0, v0_f1, v0_f2, v0_f3⟩, ⟨v0_c0, v0_c1, v0_c2, v0_c3, v0_g0, v0_g1, v0_g2, v0_g3, v0_z0⟩, v0_z1⟩ := HM0.out.facts
  go_region_with (first
   | (go_at_call 105; refine (HX1 _).out.mono ?_; rintro e w11 ⟨rfl, hbw11⟩; have HNw11 := Lib.hid (HM0.out.drew.next hbw11); obtain ⟨⟨w11_r0, w11_r1, w11_r2, w11_r3⟩, ⟨w11_f0, w11_f1, w11_f2, w11_f3⟩, ⟨w11_c0, w11_c1, w11_c2, w11_c3, w11_g0, w11_g1, w11_g2, w11_g3, w11_z0⟩, w11_z1⟩ := HNw11.out.facts; unfold SV)
   | (go_at_call 98; refine (unionL _ (orP noP cls_upper) (rng 97 122) _).mono ?_; rintro e w12 ⟨rfl, hbw12⟩; have HNw12 := Lib.hid (HNw11.out.next hbw12); obtain ⟨⟨w12_r0, w12_r1, w12_r2, w12_r3⟩, ⟨w12_f0, w12_f1, w12_f2, w12_f3⟩, ⟨w12_c0, w12_c1, w12_c2, w12_c3, w12_g0, w12_g1, w12_g2, w12_g3, w12_z0⟩, w12_z1⟩ := HNw12.out.facts; unfold SV))
  all_goals
   go_wp2
   exact bodyPost_ret (by simp [results, Tryz.results110, go_sem, w12_c0, w12_c1, w12_c2, w12_c3]; rfl) rfl ⟨by first | rfl | exact congrArg Ending.returned (SV_congr fun c _ => by simp [cls_alpha, orP, lessP, noP]), res_below HNw12.out.1 _ _ _ _⟩
def cls_blank (c : Nat) : Bool := mem [32, 9] c
theorem named_blank (w : World) :
  Calls Tryz.prog 110 #[.string ⟨#[98, 108, 97, 110, 107]⟩] w fun e w' => e = .returned (SV cls_blank) ∧ Below w.heap.size w w' := by
 have HX0 : ∀ w, Hid (Calls Tryz.prog 73 #[.string ⟨#[32, 9]⟩] w fun e w' => e = .returned (SV (mem [32, 9])) ∧ Below w.heap.size w w') := fun w => Lib.hid (of_any ⟨#[32, 9]⟩ w (by decide))
 go_enter Tryz.func110, Tryz.ntmps110
 go_wp2_with fail
 have HN0 : Hid (NS w _ noP) := Lib.hid (NS.start w)
 obtain ⟨V, hV⟩ : ∃ V, V = (w.alloc (.cells #[.int .u64 0, .int .u64 0, .int .u64 0, .int .u64 0] 54)).alloc (.cells #[.int .u64 0, .int .u64 0, .int .u64 0, .int .u64 0] 54) := ⟨_, rfl⟩
 rw [← hV] at HN0 ⊢
 clear hV
 obtain ⟨⟨r0, r1, r2, r3⟩, ⟨f0, f1, f2, f3⟩, ⟨c0, c1, c2, c3, g0, g1, g2, g3, z0⟩, z1⟩ := HN0.out.facts
 go_region_with (first
  | (go_at_call 73; refine (HX0 _).out.mono ?_; rintro e w01 ⟨rfl, hbw01⟩; have HNw01 := Lib.hid (HN0.out.drew.next hbw01); obtain ⟨⟨w01_r0, w01_r1, w01_r2, w01_r3⟩, ⟨w01_f0, w01_f1, w01_f2, w01_f3⟩, ⟨w01_c0, w01_c1, w01_c2, w01_c3, w01_g0, w01_g1, w01_g2, w01_g3, w01_z0⟩, w01_z1⟩ := HNw01.out.facts; unfold SV)
  | (go_at_call 98; refine (unionL _ noP (mem [32, 9]) _).mono ?_; rintro e w02 ⟨rfl, hbw02⟩; have HNw02 := Lib.hid (HNw01.out.next hbw02); obtain ⟨⟨w02_r0, w02_r1, w02_r2, w02_r3⟩, ⟨w02_f0, w02_f1, w02_f2, w02_f3⟩, ⟨w02_c0, w02_c1, w02_c2, w02_c3, w02_g0, w02_g1, w02_g2, w02_g3, w02_z0⟩, w02_z1⟩ := HNw02.out.facts; unfold SV))
 all_goals
  go_wp2
  exact bodyPost_ret (by simp [results, Tryz.results110, go_sem, w02_c0, w02_c1, w02_c2, w02_c3]; rfl) rfl ⟨by first | rfl | exact congrArg Ending.returned (SV_congr fun c _ => by simp [cls_blank, orP, lessP, noP]), res_below HNw02.out.1 _ _ _ _⟩
def cls_print (c : Nat) : Bool := mem [32] c || rng 33 126 c
theorem named_print (w : World) :
  Calls Tryz.prog 110 #[.string ⟨#[112, 114, 105, 110, 116]⟩] w fun e w' => e = .returned (SV cls_print) ∧ Below w.heap.size w w' := by
 have HX0 : ∀ w, Hid (Calls Tryz.prog 73 #[.string ⟨#[32]⟩] w fun e w' => e = .returned (SV (mem [32])) ∧ Below w.heap.size w w') := fun w => Lib.hid (of_any ⟨#[32]⟩ w (by decide))
 have HX1 : ∀ w, Hid (Calls Tryz.prog 105 #[.int .u8 33, .int .u8 126] w fun e w' => e = .returned (SV (rng 33 126)) ∧ Below w.heap.size w w') := fun w => Lib.hid (range_any 33 126 (by omega) (by omega) w)
 go_enter Tryz.func110, Tryz.ntmps110
 go_wp2_with fail
 have HN0 : Hid (NS w _ noP) := Lib.hid (NS.start w)
 obtain ⟨V, hV⟩ : ∃ V, V = (w.alloc (.cells #[.int .u64 0, .int .u64 0, .int .u64 0, .int .u64 0] 54)).alloc (.cells #[.int .u64 0, .int .u64 0, .int .u64 0, .int .u64 0] 54) := ⟨_, rfl⟩
 rw [← hV] at HN0 ⊢
 clear hV
 obtain ⟨⟨r0, r1, r2, r3⟩, ⟨f0, f1, f2, f3⟩, ⟨c0, c1, c2, c3, g0, g1, g2, g3, z0⟩, z1⟩ := HN0.out.facts
 refine (HX0 _).out.mono ?_
 rintro e w01 ⟨rfl, hbw01⟩
 have HNw01 := Lib.hid (HN0.out.next hbw01)
 clear hbw01
 obtain ⟨⟨w01_r0, w01_r1, w01_r2, w01_r3⟩, ⟨w01_f0, w01_f1, w01_f2, w01_f3⟩, ⟨w01_c0, w01_c1, w01_c2, w01_c3, w01_g0, w01_g1, w01_g2, w01_g3, w01_z0⟩, w01_z1⟩ := HNw01.out.facts
 unfold SV
 go_wp2
 obtain ⟨V0, hV0⟩ : ∃ V, V = (((w01.setCell ⟨w.heap.size + 1, 0, none⟩ (.int .u64 (sw (mem [32]) 0 : Nat))).setCell ⟨w.heap.size + 1, 1, none⟩ (.int .u64 (sw (mem [32]) 1 : Nat))).setCell ⟨w.heap.size + 1, 2, none⟩ (.int .u64 (sw (mem [32]) 2 : Nat))).setCell ⟨w.heap.size + 1, 3, none⟩ (.int .u64 (sw (mem [32]) 3 : Nat)) := ⟨_, rfl⟩
 have HM0 := Lib.hid (HNw01.out.put (mem [32]))
 rw [← hV0] at HM0
 rw [← hV0]
 clear hV0
 obtain ⟨⟨v0_r0, v0_r1, v0_r2, v0_r3⟩, ⟨v0_f0, v0_f1, v0_f2, v0_f3⟩, ⟨v0_c0, v0_c1, v0_c2, v0_c3, v0_g0, v0_g1, v0_g2, v0_g3, v0_z0⟩, v0_z1⟩ := HM0.out.facts
 go_region_with (first
  | (go_at_call 105; refine (HX1 _).out.mono ?_; rintro e w11 ⟨rfl, hbw11⟩; have HNw11 := Lib.hid (HM0.out.drew.next hbw11); obtain ⟨⟨w11_r0, w11_r1, w11_r2, w11_r3⟩, ⟨w11_f0, w11_f1, w11_f2, w11_f3⟩, ⟨w11_c0, w11_c1, w11_c2, w11_c3, w11_g0, w11_g1, w11_g2, w11_g3, w11_z0⟩, w11_z1⟩ := HNw11.out.facts; unfold SV)
  | (go_at_call 98; refine (unionL _ (mem [32]) (rng 33 126) _).mono ?_; rintro e w12 ⟨rfl, hbw12⟩; have HNw12 := Lib.hid (HNw11.out.next hbw12); obtain ⟨⟨w12_r0, w12_r1, w12_r2, w12_r3⟩, ⟨w12_f0, w12_f1, w12_f2, w12_f3⟩, ⟨w12_c0, w12_c1, w12_c2, w12_c3, w12_g0, w12_g1, w12_g2, w12_g3, w12_z0⟩, w12_z1⟩ := HNw12.out.facts; unfold SV))
 all_goals
  go_wp2
  exact bodyPost_ret (by simp [results, Tryz.results110, go_sem, w12_c0, w12_c1, w12_c2, w12_c3]; rfl) rfl ⟨by first | rfl | exact congrArg Ending.returned (SV_congr fun c _ => by simp [cls_print, orP, lessP, noP]), res_below HNw12.out.1 _ _ _ _⟩
def cls_punct (c : Nat) : Bool := cls_graph c && !cls_alnum c
theorem named_punct (w : World) :
  Calls Tryz.prog 110 #[.string ⟨#[112, 117, 110, 99, 116]⟩] w fun e w' => e = .returned (SV cls_punct) ∧ Below w.heap.size w w' := by
 have HX0 : ∀ w, Hid (Calls Tryz.prog 110 #[.string ⟨#[103, 114, 97, 112, 104]⟩] w fun e w' => e = .returned (SV cls_graph) ∧ Below w.heap.size w w') := fun w => Lib.hid (named_graph w)
 have HX1 : ∀ w, Hid (Calls Tryz.prog 110 #[.string ⟨#[97, 108, 110, 117, 109]⟩] w fun e w' => e = .returned (SV cls_alnum) ∧ Below w.heap.size w w') := fun w => Lib.hid (named_alnum w)
 go_enter Tryz.func110, Tryz.ntmps110
 go_wp2_with fail
 have HN0 : Hid (NS w _ noP) := Lib.hid (NS.start w)
 obtain ⟨V, hV⟩ : ∃ V, V = (w.alloc (.cells #[.int .u64 0, .int .u64 0, .int .u64 0, .int .u64 0] 54)).alloc (.cells #[.int .u64 0, .int .u64 0, .int .u64 0, .int .u64 0] 54) := ⟨_, rfl⟩
 rw [← hV] at HN0 ⊢
 clear hV
 obtain ⟨⟨r0, r1, r2, r3⟩, ⟨f0, f1, f2, f3⟩, ⟨c0, c1, c2, c3, g0, g1, g2, g3, z0⟩, z1⟩ := HN0.out.facts
 refine (HX0 _).out.mono ?_
 rintro e w01 ⟨rfl, hbw01⟩
 have HNw01 := Lib.hid (HN0.out.next hbw01)
 clear hbw01
 go_wp2_with fail
 refine (HX1 _).out.mono ?_
 rintro e w02 ⟨rfl, hbw02⟩
 have HNw02 := Lib.hid (HNw01.out.next hbw02)
 clear hbw02
 go_wp2_with fail
 refine (show Calls Tryz.prog 85 #[SV cls_graph, SV cls_alnum] w02 fun e w' => e = .returned (SV (lessP cls_graph cls_alnum)) ∧ Below w02.heap.size w02 w' from without_any cls_graph cls_alnum _).mono ?_
 rintro e w03 ⟨rfl, hbw03⟩
 have HNw03 := Lib.hid (HNw02.out.next hbw03)
 clear hbw03
 obtain ⟨⟨w03_r0, w03_r1, w03_r2, w03_r3⟩, ⟨w03_f0, w03_f1, w03_f2, w03_f3⟩, ⟨w03_c0, w03_c1, w03_c2, w03_c3, w03_g0, w03_g1, w03_g2, w03_g3, w03_z0⟩, w03_z1⟩ := HNw03.out.facts
 unfold SV
 go_wp2
 exact bodyPost_ret (by simp [results, Tryz.results110, go_sem, w03_c0, w03_c1, w03_c2, w03_c3]; rfl) rfl ⟨by first | rfl | exact congrArg Ending.returned (SV_congr fun c _ => by simp [cls_punct, orP, lessP, noP]), res_below HNw03.out.1 _ _ _ _⟩
def cls_cntrl (c : Nat) : Bool := rng 0 31 c || mem [127] c
theorem named_cntrl (w : World) :
  Calls Tryz.prog 110 #[.string ⟨#[99, 110, 116, 114, 108]⟩] w fun e w' => e = .returned (SV cls_cntrl) ∧ Below w.heap.size w w' := by
 have HX0 : ∀ w, Hid (Calls Tryz.prog 105 #[.int .u8 0, .int .u8 31] w fun e w' => e = .returned (SV (rng 0 31)) ∧ Below w.heap.size w w') := fun w => Lib.hid (range_any 0 31 (by omega) (by omega) w)
 have HX1 : ∀ w, Hid (Calls Tryz.prog 73 #[.string ⟨#[127]⟩] w fun e w' => e = .returned (SV (mem [127])) ∧ Below w.heap.size w w') := fun w => Lib.hid (of_any ⟨#[127]⟩ w (by decide))
 go_enter Tryz.func110, Tryz.ntmps110
 go_wp2_with fail
 have HN0 : Hid (NS w _ noP) := Lib.hid (NS.start w)
 obtain ⟨V, hV⟩ : ∃ V, V = (w.alloc (.cells #[.int .u64 0, .int .u64 0, .int .u64 0, .int .u64 0] 54)).alloc (.cells #[.int .u64 0, .int .u64 0, .int .u64 0, .int .u64 0] 54) := ⟨_, rfl⟩
 rw [← hV] at HN0 ⊢
 clear hV
 obtain ⟨⟨r0, r1, r2, r3⟩, ⟨f0, f1, f2, f3⟩, ⟨c0, c1, c2, c3, g0, g1, g2, g3, z0⟩, z1⟩ := HN0.out.facts
 refine (HX0 _).out.mono ?_
 rintro e w01 ⟨rfl, hbw01⟩
 have HNw01 := Lib.hid (HN0.out.next hbw01)
 clear hbw01
 go_wp2_with fail
 refine (HX1 _).out.mono ?_
 rintro e w02 ⟨rfl, hbw02⟩
 have HNw02 := Lib.hid (HNw01.out.next hbw02)
 clear hbw02
 unfold SV
 go_wp2_with fail
 refine (unionL _ (rng 0 31) (mem [127]) _).mono ?_
 rintro e w03 ⟨rfl, hbw03⟩
 have HNw03 := Lib.hid (HNw02.out.next hbw03)
 clear hbw03
 obtain ⟨⟨w03_r0, w03_r1, w03_r2, w03_r3⟩, ⟨w03_f0, w03_f1, w03_f2, w03_f3⟩, ⟨w03_c0, w03_c1, w03_c2, w03_c3, w03_g0, w03_g1, w03_g2, w03_g3, w03_z0⟩, w03_z1⟩ := HNw03.out.facts
 unfold SV
 go_wp2
 exact bodyPost_ret (by simp [results, Tryz.results110, go_sem, w03_c0, w03_c1, w03_c2, w03_c3]; rfl) rfl ⟨by first | rfl | exact congrArg Ending.returned (SV_congr fun c _ => by simp [cls_cntrl, orP, lessP, noP]), res_below HNw03.out.1 _ _ _ _⟩
def cls_xdigit (c : Nat) : Bool := (rng 97 102 c || rng 65 70 c) || rng 48 57 c
theorem named_xdigit (w : World) :
  Calls Tryz.prog 110 #[.string ⟨#[120, 100, 105, 103, 105, 116]⟩] w fun e w' => e = .returned (SV cls_xdigit) ∧ Below w.heap.size w w' := by
 have HX0 : ∀ w, Hid (Calls Tryz.prog 105 #[.int .u8 97, .int .u8 102] w fun e w' => e = .returned (SV (rng 97 102)) ∧ Below w.heap.size w w') := fun w => Lib.hid (range_any 97 102 (by omega) (by omega) w)
 have HX1 : ∀ w, Hid (Calls Tryz.prog 105 #[.int .u8 65, .int .u8 70] w fun e w' => e = .returned (SV (rng 65 70)) ∧ Below w.heap.size w w') := fun w => Lib.hid (range_any 65 70 (by omega) (by omega) w)
 have HX2 : ∀ w, Hid (Calls Tryz.prog 105 #[.int .u8 48, .int .u8 57] w fun e w' => e = .returned (SV (rng 48 57)) ∧ Below w.heap.size w w') := fun w => Lib.hid (range_any 48 57 (by omega) (by omega) w)
 go_enter Tryz.func110, Tryz.ntmps110
 go_wp2_with fail
 have HN0 : Hid (NS w _ noP) := Lib.hid (NS.start w)
 obtain ⟨V, hV⟩ : ∃ V, V = (w.alloc (.cells #[.int .u64 0, .int .u64 0, .int .u64 0, .int .u64 0] 54)).alloc (.cells #[.int .u64 0, .int .u64 0, .int .u64 0, .int .u64 0] 54) := ⟨_, rfl⟩
 rw [← hV] at HN0 ⊢
 clear hV
 obtain ⟨⟨r0, r1, r2, r3⟩, ⟨f0, f1, f2, f3⟩, ⟨c0, c1, c2, c3, g0, g1, g2, g3, z0⟩, z1⟩ := HN0.out.facts
 refine (HX0 _).out.mono ?_
 rintro e w01 ⟨rfl, hbw01⟩
 have HNw01 := Lib.hid (HN0.out.next hbw01)
 clear hbw01
 go_wp2_with fail
 refine (HX1 _).out.mono ?_
 rintro e w02 ⟨rfl, hbw02⟩
 have HNw02 := Lib.hid (HNw01.out.next hbw02)
 clear hbw02
 unfold SV
 go_wp2_with fail
 refine (unionL _ (rng 97 102) (rng 65 70) _).mono ?_
 rintro e w03 ⟨rfl, hbw03⟩
 have HNw03 := Lib.hid (HNw02.out.next hbw03)
 clear hbw03
 obtain ⟨⟨w03_r0, w03_r1, w03_r2, w03_r3⟩, ⟨w03_f0, w03_f1, w03_f2, w03_f3⟩, ⟨w03_c0, w03_c1, w03_c2, w03_c3, w03_g0, w03_g1, w03_g2, w03_g3, w03_z0⟩, w03_z1⟩ := HNw03.out.facts
 unfold SV
 go_wp2
 obtain ⟨V0, hV0⟩ : ∃ V, V = (((w03.setCell ⟨w.heap.size + 1, 0, none⟩ (.int .u64 (sw (orP (rng 97 102) (rng 65 70)) 0 : Nat))).setCell ⟨w.heap.size + 1, 1, none⟩ (.int .u64 (sw (orP (rng 97 102) (rng 65 70)) 1 : Nat))).setCell ⟨w.heap.size + 1, 2, none⟩ (.int .u64 (sw (orP (rng 97 102) (rng 65 70)) 2 : Nat))).setCell ⟨w.heap.size + 1, 3, none⟩ (.int .u64 (sw (orP (rng 97 102) (rng 65 70)) 3 : Nat)) := ⟨_, rfl⟩
 have HM0 := Lib.hid (HNw03.out.put (orP (rng 97 102) (rng 65 70)))
 rw [← hV0] at HM0
 rw [← hV0]
 clear hV0
 obtain ⟨⟨v0_r0, v0_r1, v0_r2, v0_r3⟩, ⟨v0_f0, v0_f1, v0_f2, v0_f3⟩, ⟨v0_c0, v0_c1, v0_c2, v0_c3, v0_g0, v0_g1, v0_g2, v0_g3, v0_z0⟩, v0_z1⟩ := HM0.out.facts
 go_region_with (first
  | (go_at_call 105; refine (HX2 _).out.mono ?_; rintro e w11 ⟨rfl, hbw11⟩; have HNw11 := Lib.hid (HM0.out.drew.next hbw11); obtain ⟨⟨w11_r0, w11_r1, w11_r2, w11_r3⟩, ⟨w11_f0, w11_f1, w11_f2, w11_f3⟩, ⟨w11_c0, w11_c1, w11_c2, w11_c3, w11_g0, w11_g1, w11_g2, w11_g3, w11_z0⟩, w11_z1⟩ := HNw11.out.facts; unfold SV)
  | (go_at_call 98; refine (unionL _ (orP (rng 97 102) (rng 65 70)) (rng 48 57) _).mono ?_; rintro e w12 ⟨rfl, hbw12⟩; have HNw12 := Lib.hid (HNw11.out.next hbw12); obtain ⟨⟨w12_r0, w12_r1, w12_r2, w12_r3⟩, ⟨w12_f0, w12_f1, w12_f2, w12_f3⟩, ⟨w12_c0, w12_c1, w12_c2, w12_c3, w12_g0, w12_g1, w12_g2, w12_g3, w12_z0⟩, w12_z1⟩ := HNw12.out.facts; unfold SV))
 all_goals
  go_wp2
  exact bodyPost_ret (by simp [results, Tryz.results110, go_sem, w12_c0, w12_c1, w12_c2, w12_c3]; rfl) rfl ⟨by first | rfl | exact congrArg Ending.returned (SV_congr fun c _ => by simp [cls_xdigit, orP, lessP, noP]), res_below HNw12.out.1 _ _ _ _⟩
theorem tl_noX (nm : ByteArray) (l : List UInt8) (h : ¬ nm = ⟨l.toArray⟩) : (nm.toList == l) = false := by
 rw [Bool.eq_false_iff]
 intro h'
 rw [beq_iff_eq, ByteArray.toList_eq] at h'
 refine h ?_
 obtain ⟨⟨x⟩⟩ := nm
 simp only at h'
 rw [h']
theorem class_row (nm : ByteArray) : ∃ x : (Nat → Bool) × Bool, (x.2 = false → ∀ c, c < 256 → x.1 c = false) ∧ (nm = ⟨#[]⟩ → x.2 = false) ∧
  ∀ w, Calls Tryz.prog 108 #[.string nm] w fun e w' => e = .returned (.tuple #[SV x.1, .bool x.2]) ∧ Below w.heap.size w w' := by
 by_cases h_alpha : nm = ⟨#[97, 108, 112, 104, 97]⟩
 ·subst h_alpha
  refine ⟨(cls_alpha, true), ?_, ?_, fun w => ?_⟩
  ·intro h; cases h
  ·intro h; exact absurd (congrArg ByteArray.size h) (by decide)
  have := class_of _ _ (fun w => named_alpha w) w
  rwa [show anyS cls_alpha = true by kernel_rfl] at this
 by_cases h_digit : nm = ⟨#[100, 105, 103, 105, 116]⟩
 ·subst h_digit
  refine ⟨(cls_digit, true), ?_, ?_, fun w => ?_⟩
  ·intro h; cases h
  ·intro h; exact absurd (congrArg ByteArray.size h) (by decide)
  have := class_of _ _ (fun w => named_digit w) w
  rwa [show anyS cls_digit = true by kernel_rfl] at this
 by_cases h_alnum : nm = ⟨#[97, 108, 110, 117, 109]⟩
 ·subst h_alnum
  refine ⟨(cls_alnum, true), ?_, ?_, fun w => ?_⟩
  ·intro h; cases h
  ·intro h; exact absurd (congrArg ByteArray.size h) (by decide)
  have := class_of _ _ (fun w => named_alnum w) w
  rwa [show anyS cls_alnum = true by kernel_rfl] at this
 by_cases h_upper : nm = ⟨#[117, 112, 112, 101, 114]⟩
 ·subst h_upper
  refine ⟨(cls_upper, true), ?_, ?_, fun w => ?_⟩
  ·intro h; cases h
  ·intro h; exact absurd (congrArg ByteArray.size h) (by decide)
  have := class_of _ _ (fun w => named_upper w) w
  rwa [show anyS cls_upper = true by kernel_rfl] at this
 by_cases h_lower : nm = ⟨#[108, 111, 119, 101, 114]⟩
 ·subst h_lower
  refine ⟨(cls_lower, true), ?_, ?_, fun w => ?_⟩
  ·intro h; cases h
  ·intro h; exact absurd (congrArg ByteArray.size h) (by decide)
  have := class_of _ _ (fun w => named_lower w) w
  rwa [show anyS cls_lower = true by kernel_rfl] at this
 by_cases h_space : nm = ⟨#[115, 112, 97, 99, 101]⟩
 ·subst h_space
  refine ⟨(cls_space, true), ?_, ?_, fun w => ?_⟩
  ·intro h; cases h
  ·intro h; exact absurd (congrArg ByteArray.size h) (by decide)
  have := class_of _ _ (fun w => named_space w) w
  rwa [show anyS cls_space = true by kernel_rfl] at this
 by_cases h_blank : nm = ⟨#[98, 108, 97, 110, 107]⟩
 ·subst h_blank
  refine ⟨(cls_blank, true), ?_, ?_, fun w => ?_⟩
  ·intro h; cases h
  ·intro h; exact absurd (congrArg ByteArray.size h) (by decide)
  have := class_of _ _ (fun w => named_blank w) w
  rwa [show anyS cls_blank = true by kernel_rfl] at this
 by_cases h_print : nm = ⟨#[112, 114, 105, 110, 116]⟩
 ·subst h_print
  refine ⟨(cls_print, true), ?_, ?_, fun w => ?_⟩
  ·intro h; cases h
  ·intro h; exact absurd (congrArg ByteArray.size h) (by decide)
  have := class_of _ _ (fun w => named_print w) w
  rwa [show anyS cls_print = true by kernel_rfl] at this
 by_cases h_graph : nm = ⟨#[103, 114, 97, 112, 104]⟩
 ·subst h_graph
  refine ⟨(cls_graph, true), ?_, ?_, fun w => ?_⟩
  ·intro h; cases h
  ·intro h; exact absurd (congrArg ByteArray.size h) (by decide)
  have := class_of _ _ (fun w => named_graph w) w
  rwa [show anyS cls_graph = true by kernel_rfl] at this
 by_cases h_punct : nm = ⟨#[112, 117, 110, 99, 116]⟩
 ·subst h_punct
  refine ⟨(cls_punct, true), ?_, ?_, fun w => ?_⟩
  ·intro h; cases h
  ·intro h; exact absurd (congrArg ByteArray.size h) (by decide)
  have := class_of _ _ (fun w => named_punct w) w
  rwa [show anyS cls_punct = true by kernel_rfl] at this
 by_cases h_cntrl : nm = ⟨#[99, 110, 116, 114, 108]⟩
 ·subst h_cntrl
  refine ⟨(cls_cntrl, true), ?_, ?_, fun w => ?_⟩
  ·intro h; cases h
  ·intro h; exact absurd (congrArg ByteArray.size h) (by decide)
  have := class_of _ _ (fun w => named_cntrl w) w
  rwa [show anyS cls_cntrl = true by kernel_rfl] at this
 by_cases h_xdigit : nm = ⟨#[120, 100, 105, 103, 105, 116]⟩
 ·subst h_xdigit
  refine ⟨(cls_xdigit, true), ?_, ?_, fun w => ?_⟩
  ·intro h; cases h
  ·intro h; exact absurd (congrArg ByteArray.size h) (by decide)
  have := class_of _ _ (fun w => named_xdigit w) w
  rwa [show anyS cls_xdigit = true by kernel_rfl] at this
 refine ⟨(noP, false), fun _ _ _ => rfl, fun _ => rfl, fun w => ?_⟩
 have := class_of nm noP (fun w => named_other nm (tl_noX nm [97, 108, 112, 104, 97] h_alpha) (tl_noX nm [100, 105, 103, 105, 116] h_digit) (tl_noX nm [97, 108, 110, 117, 109] h_alnum) (tl_noX nm [117, 112, 112, 101, 114] h_upper) (tl_noX nm [108, 111, 119, 101, 114] h_lower) (tl_noX nm [115, 112, 97, 99, 101] h_space) (tl_noX nm [98, 108, 97, 110, 107] h_blank) (tl_noX nm [112, 114, 105, 110, 116] h_print) (tl_noX nm [103, 114, 97, 112, 104] h_graph) (tl_noX nm [112, 117, 110, 99, 116] h_punct) (tl_noX nm [99, 110, 116, 114, 108] h_cntrl) (tl_noX nm [120, 100, 105, 103, 105, 116] h_xdigit) w) w
 rwa [show anyS noP = false by kernel_rfl] at this
theorem classes_ok : ∃ cf : ByteArray → (Nat → Bool) × Bool, ClassOk cf :=
 ⟨fun nm => (class_row nm).choose, fun nm => (class_row nm).choose_spec.1, (class_row ⟨#[]⟩).choose_spec.2.1 rfl, fun nm w => (class_row nm).choose_spec.2.2 w⟩
end Go.Proofs.YtnpkcllbpnmabaaGreatDoor
