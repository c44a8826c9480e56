/- The walk of SetAscii. -/
import Derived.Test.YtllhpahbpeemaaaSeCls
import Derived.Test.YtllhpahbpeemaaaSeUni4
import Derived.Test.YtllhpahbpeemaaaSeNpunct
import Derived.Test.YtllhpahbpeemaaaSeNspace
import Derived.Test.YtllhpahbpeemaaaSeNcntrl
import Derived.Test.YtllhpahbpeemaaaSeNxdigit
import Derived.Test.YtllhpahbpeemaaaSeNalpha
import Derived.Test.YtllhpahbpeemaaaSeNlower
import Derived.Test.YtllhpahbpeemaaaSeNupper
import Derived.Test.YtllhpahbpeemaaaSeNdigit
namespace Go.Proofs.Ytllhpahbpeemaaa
open Go.RowKit

theorem eq_yes (p q : Nat → Bool) (h : ∀ c, c < 256 → p c = q c) (w : World) :
    (Op.equalIn 10000 24 (.agg #[.int .u64 (sw p 0 : Nat), .int .u64 (sw p 1 : Nat), .int .u64 (sw p 2 : Nat), .int .u64 (sw p 3 : Nat)]) (.agg #[.int .u64 (sw q 0 : Nat), .int .u64 (sw q 1 : Nat), .int .u64 (sw q 2 : Nat), .int .u64 (sw q 3 : Nat)])).run Try.prog w = .ok true w := by
  have e : ∀ i, i < 4 → sw p i = sw q i := fun i hi => wd_congr fun j hj => h _ (by omega)
  rw [eq_arr 9998, e 0 (by omega), e 1 (by omega), e 2 (by omega), e 3 (by omega)]
  simp

set_option maxRecDepth 100000 in
set_option maxHeartbeats 8000000 in
theorem get_of (nm : ByteArray) (p : Nat → Bool) (hn : ∀ w, Calls Try.prog 9 #[.string nm] w fun e w' => e = .returned (SV p) ∧ Below w.heap.size w w') (w : World) :
    Calls Try.prog 4 #[.string nm] w fun e w' => e = .returned (SV p) ∧ Below w.heap.size w w' := by
  have HC : ∀ w, Hid (Calls Try.prog 5 #[.string nm] w fun e w' => e = .returned (.tuple #[SV p, .bool (anyS p)]) ∧ Below w.heap.size w w') := fun w => Lib.hid (class_of nm p hn w)
  clear hn
  go_enter Try.func4, Try.ntmps4
  go_wp2_with fail
  refine (HC _).out.mono ?_
  rintro e w1 ⟨rfl, hb1⟩
  have HB := Lib.hid (hb1.mono (show w.heap.size + 1 ≤ (w.alloc (.cells #[.int .u64 0, .int .u64 0, .int .u64 0, .int .u64 0] 24)).heap.size by simp))
  clear hb1
  obtain ⟨c0, c1, c2, c3, g0, g1, g2, g3, hz⟩ := res_facts HB.out (Nat.lt_succ_self _)
  unfold SV
  go_wp2
  exact bodyPost_ret (by simp [results, Try.results4, go_sem, World.cell?_alloc_lt, hz, c0, c1, c2, c3]; rfl) rfl ⟨rfl, ((res_below HB.out _ _ _ _).alloc (by simp; exact Nat.le_of_lt hz) _)⟩


theorem row4_box (w : World) (p : Nat → Bool) : Row4 (w.alloc (.cells #[.int .u64 (sw p 0 : Nat), .int .u64 (sw p 1 : Nat), .int .u64 (sw p 2 : Nat), .int .u64 (sw p 3 : Nat)] 24)) w.heap.size 0 p := by
  refine ⟨?_, ?_, ?_, ?_⟩ <;> simp
theorem row4_below {w w' : World} {b : Nat} {p : Nat → Bool} (h : Row4 w b 0 p) (hb : Below w.heap.size w w') (hz : b < w.heap.size) : Row4 w' b 0 p := by
  have k : ∀ o, w'.cell? ⟨b, o, none⟩ = w.cell? ⟨b, o, none⟩ := fun o => hb.cell (p := ⟨b, o, none⟩) hz
  exact ⟨(k _).trans h.1, (k _).trans h.2.1, (k _).trans h.2.2.1, (k _).trans h.2.2.2⟩
/-- All that the four classes hold. -/
def allP (c : Nat) : Bool := ((cls_alnum c || cls_punct c) || cls_space c) || cls_cntrl c
theorem all_high (c : Nat) (h1 : 128 ≤ c) (h2 : c < 256) : allP c = false := by
  have h : ((List.range 256).all fun c => decide (c < 128) || !allP c) = true := by kernel_rfl
  have := List.all_eq_true.1 h c (by simpa using h2)
  simpa [Nat.not_lt.2 h1] using this
theorem graph_all (c : Nat) (h : c < 256) : orP cls_alnum cls_punct c = cls_graph c := by
  have h' : ((List.range 256).all fun c => orP cls_alnum cls_punct c == cls_graph c) = true := by kernel_rfl
  simpa using List.all_eq_true.1 h' c (by simpa using h)
theorem unionL4 (w : World) (p0 p1 p2 p3 : Nat → Bool) (t : TypeId) :
    Calls Try.prog 6 #[.slice (some ⟨w.heap.size, 0, none⟩) 4 4] (w.alloc (.cells #[.int .u64 (sw p0 0 : Nat), .int .u64 (sw p0 1 : Nat), .int .u64 (sw p0 2 : Nat), .int .u64 (sw p0 3 : Nat), .int .u64 (sw p1 0 : Nat), .int .u64 (sw p1 1 : Nat), .int .u64 (sw p1 2 : Nat), .int .u64 (sw p1 3 : Nat), .int .u64 (sw p2 0 : Nat), .int .u64 (sw p2 1 : Nat), .int .u64 (sw p2 2 : Nat), .int .u64 (sw p2 3 : Nat), .int .u64 (sw p3 0 : Nat), .int .u64 (sw p3 1 : Nat), .int .u64 (sw p3 2 : Nat), .int .u64 (sw p3 3 : Nat)] t))
      fun e w' => e = .returned (SV fun c => ((p0 c || p1 c) || p2 c) || p3 c) ∧ Below w.heap.size w w' := by
  refine (union4_any p0 p1 p2 p3 w.heap.size 4 _ ?_ ?_ ?_ ?_ (by simp)).mono fun _ _ h => ⟨h.1, ((Below.refl _ _).alloc (Nat.le_refl _) _).trans (h.2.mono (by simp))⟩
  all_goals (refine ⟨?_, ?_, ?_, ?_⟩ <;> simp)

set_option maxRecDepth 100000 in
set_option maxHeartbeats 16000000 in
theorem ascii_any (w : World) : Calls Try.prog 3 #[] w fun e w' => e = .returned (.bool true) ∧ Below w.heap.size w w' := by
  have hg_alnum : ∀ w, Hid (Calls Try.prog 4 #[.string ⟨#[97, 108, 110, 117, 109]⟩] w fun e w' => e = .returned (SV cls_alnum) ∧ Below w.heap.size w w') := fun w => Lib.hid (get_of _ _ (fun w => named_alnum w) w)
  have hg_punct : ∀ w, Hid (Calls Try.prog 4 #[.string ⟨#[112, 117, 110, 99, 116]⟩] w fun e w' => e = .returned (SV cls_punct) ∧ Below w.heap.size w w') := fun w => Lib.hid (get_of _ _ (fun w => named_punct w) w)
  have hg_space : ∀ w, Hid (Calls Try.prog 4 #[.string ⟨#[115, 112, 97, 99, 101]⟩] w fun e w' => e = .returned (SV cls_space) ∧ Below w.heap.size w w') := fun w => Lib.hid (get_of _ _ (fun w => named_space w) w)
  have hg_cntrl : ∀ w, Hid (Calls Try.prog 4 #[.string ⟨#[99, 110, 116, 114, 108]⟩] w fun e w' => e = .returned (SV cls_cntrl) ∧ Below w.heap.size w w') := fun w => Lib.hid (get_of _ _ (fun w => named_cntrl w) w)
  have hg_upper : ∀ w, Hid (Calls Try.prog 4 #[.string ⟨#[117, 112, 112, 101, 114]⟩] w fun e w' => e = .returned (SV cls_upper) ∧ Below w.heap.size w w') := fun w => Lib.hid (get_of _ _ (fun w => named_upper w) w)
  have hg_lower : ∀ w, Hid (Calls Try.prog 4 #[.string ⟨#[108, 111, 119, 101, 114]⟩] w fun e w' => e = .returned (SV cls_lower) ∧ Below w.heap.size w w') := fun w => Lib.hid (get_of _ _ (fun w => named_lower w) w)
  have hg_alpha : ∀ w, Hid (Calls Try.prog 4 #[.string ⟨#[97, 108, 112, 104, 97]⟩] w fun e w' => e = .returned (SV cls_alpha) ∧ Below w.heap.size w w') := fun w => Lib.hid (get_of _ _ (fun w => named_alpha w) w)
  have hg_digit : ∀ w, Hid (Calls Try.prog 4 #[.string ⟨#[100, 105, 103, 105, 116]⟩] w fun e w' => e = .returned (SV cls_digit) ∧ Below w.heap.size w w') := fun w => Lib.hid (get_of _ _ (fun w => named_digit w) w)
  have hg_graph : ∀ w, Hid (Calls Try.prog 4 #[.string ⟨#[103, 114, 97, 112, 104]⟩] w fun e w' => e = .returned (SV cls_graph) ∧ Below w.heap.size w w') := fun w => Lib.hid (get_of _ _ (fun w => named_graph w) w)
  have hg_xdigit : ∀ w, Hid (Calls Try.prog 4 #[.string ⟨#[120, 100, 105, 103, 105, 116]⟩] w fun e w' => e = .returned (SV cls_xdigit) ∧ Below w.heap.size w w') := fun w => Lib.hid (get_of _ _ (fun w => named_xdigit w) w)
  go_enter Try.func3, Try.ntmps3
  have HB0 : Hid (Below w.heap.size w w) := Lib.hid (Below.refl _ _)
  go_wp2_with fail
  refine (hg_alnum _).out.mono ?_
  rintro e w1 ⟨rfl, hb1⟩
  have HB1 := Lib.hid (below_thn HB0.out (Nat.le_refl _) hb1)
  clear hb1
  go_wp2_with fail
  refine (hg_punct _).out.mono ?_
  rintro e w2 ⟨rfl, hb2⟩
  have HB2 := Lib.hid (below_thn HB1.out (Nat.le_refl _) hb2)
  clear hb2
  go_wp2_with fail
  refine (hg_space _).out.mono ?_
  rintro e w3 ⟨rfl, hb3⟩
  have HB3 := Lib.hid (below_thn HB2.out (Nat.le_refl _) hb3)
  clear hb3
  go_wp2_with fail
  refine (hg_cntrl _).out.mono ?_
  rintro e w4 ⟨rfl, hb4⟩
  have HB4 := Lib.hid (below_thn HB3.out (Nat.le_refl _) hb4)
  clear hb4
  unfold SV
  go_wp2_with fail
  refine (unionL4 _ cls_alnum cls_punct cls_space cls_cntrl _).mono ?_
  rintro e w5 ⟨rfl, hb5⟩
  have HB5 := Lib.hid (below_thn HB4.out (Nat.le_refl _) hb5)
  clear hb5
  rw [show (SV fun c => ((cls_alnum c || cls_punct c) || cls_space c) || cls_cntrl c) = SV allP from rfl]
  unfold SV
  go_wp2
  have hr0 := row4_box w5 allP
  have HR0 := Lib.hid hr0
  have HB5' := Lib.hid (HB5.out.alloc HB5.out.size (.cells #[.int .u64 (sw allP 0 : Nat), .int .u64 (sw allP 1 : Nat), .int .u64 (sw allP 2 : Nat), .int .u64 (sw allP 3 : Nat)] 24))
  clear hr0
  go_loopw [3] (fun i wr => ∃ k : Nat, 128 ≤ k ∧ k ≤ 256 ∧ i = .int .i64 k ∧ Row4 wr w5.heap.size 0 allP ∧ Below w.heap.size w wr ∧ w5.heap.size < wr.heap.size) (fun i _ => 256 - (intOf i).toNat)
  case atStart => exact ⟨128, Nat.le_refl _, by omega, rfl, HR0.out, HB5'.out, by simp⟩
  case round =>
    obtain ⟨k, hk1, hk2, rfl, hrow, hbel, hz⟩ := hrel
    have HR := Lib.hid hrow
    have HB := Lib.hid hbel
    obtain ⟨r0, r1', r2', r3'⟩ := hrow
    have r1 : wr.cell? ⟨w5.heap.size, 1, none⟩ = some (.int .u64 (sw allP 1 : Nat)) := r1'
    have r2 : wr.cell? ⟨w5.heap.size, 2, none⟩ = some (.int .u64 (sw allP 2 : Nat)) := r2'
    have r3 : wr.cell? ⟨w5.heap.size, 3, none⟩ = some (.int .u64 (sw allP 3 : Nat)) := r3'
    clear r1' r2' r3' hbel HR0 HB5'
    by_cases hlt : k < 256
    · have HH : ∀ w, Hid (Calls Try.prog 7 #[.agg #[.int .u64 (sw allP 0 : Nat), .int .u64 (sw allP 1 : Nat), .int .u64 (sw allP 2 : Nat), .int .u64 (sw allP 3 : Nat)], .int .u8 k] w fun e w' => e = .returned (.bool false) ∧ Below w.heap.size w w') := fun w => Lib.hid ((has_any allP k hlt w).mono fun _ _ h => ⟨by rw [h.1, all_high k hk1 hlt], h.2⟩)
      go_wp2_with fail
      refine (HH _).out.mono ?_
      rintro e w6 ⟨rfl, hb6⟩
      have HB6 := Lib.hid hb6
      clear hb6
      go_wp2
      go_roundw
      case rel => exact ⟨k + 1, by omega, by omega, by go_num, row4_below HR.out HB6.out hz, below_thn HB.out (Nat.le_refl _) HB6.out, Nat.lt_of_lt_of_le hz HB6.out.size⟩
      case measure => simp [intOf]; omega
    · obtain rfl : k = 256 := by omega
      clear hk1 hk2 hlt
      have HD5 : Hid (Below wr.heap.size wr wr) := Lib.hid (Below.refl _ _)
      have e1 := eq_yes (orP cls_upper cls_lower) cls_alpha (fun _ _ => rfl)
      have e2 := eq_yes (orP cls_alpha cls_digit) cls_alnum (fun c _ => by unfold orP cls_alpha cls_alnum cls_digit; cases rng 48 57 c <;> cases rng 65 90 c <;> cases rng 97 122 c <;> rfl)
      have e3 := eq_yes (orP cls_alnum cls_punct) cls_graph graph_all
      have HLG : ∀ w, Hid (Calls Try.prog 8 #[.agg #[.int .u64 (sw cls_graph 0 : Nat), .int .u64 (sw cls_graph 1 : Nat), .int .u64 (sw cls_graph 2 : Nat), .int .u64 (sw cls_graph 3 : Nat)]] w fun e w' => e = .returned (.int .i64 94) ∧ Below w.heap.size w w') := fun w => Lib.hid ((len_any cls_graph w).mono fun _ _ h => ⟨by rw [h.1, show cntS cls_graph = 94 by kernel_rfl]; rfl, h.2⟩)
      have HLA : ∀ w, Hid (Calls Try.prog 8 #[.agg #[.int .u64 (sw allP 0 : Nat), .int .u64 (sw allP 1 : Nat), .int .u64 (sw allP 2 : Nat), .int .u64 (sw allP 3 : Nat)]] w fun e w' => e = .returned (.int .i64 128) ∧ Below w.heap.size w w') := fun w => Lib.hid ((len_any allP w).mono fun _ _ h => ⟨by rw [h.1, show cntS allP = 128 by kernel_rfl]; rfl, h.2⟩)
      have HLX : ∀ w, Hid (Calls Try.prog 8 #[.agg #[.int .u64 (sw cls_xdigit 0 : Nat), .int .u64 (sw cls_xdigit 1 : Nat), .int .u64 (sw cls_xdigit 2 : Nat), .int .u64 (sw cls_xdigit 3 : Nat)]] w fun e w' => e = .returned (.int .i64 22) ∧ Below w.heap.size w w') := fun w => Lib.hid ((len_any cls_xdigit w).mono fun _ _ h => ⟨by rw [h.1, show cntS cls_xdigit = 22 by kernel_rfl]; rfl, h.2⟩)
      go_wp2_with fail
      refine (hg_upper _).out.mono ?_
      rintro e w6 ⟨rfl, hb6⟩
      have HB6 := Lib.hid (below_thn HB.out (Nat.le_refl _) hb6)
      have HD6 := Lib.hid (below_thn HD5.out (Nat.le_refl _) hb6)
      clear hb6
      go_wp2_with fail
      refine (hg_lower _).out.mono ?_
      rintro e w7 ⟨rfl, hb7⟩
      have HB7 := Lib.hid (below_thn HB6.out (Nat.le_refl _) hb7)
      have HD7 := Lib.hid (below_thn HD6.out (Nat.le_refl _) hb7)
      clear hb7
      unfold SV
      go_wp2_with fail
      refine (unionL _ cls_upper cls_lower _).mono ?_
      rintro e w8 ⟨rfl, hb8⟩
      have HB8 := Lib.hid (below_thn HB7.out (Nat.le_refl _) hb8)
      have HD8 := Lib.hid (below_thn HD7.out (Nat.le_refl _) hb8)
      clear hb8
      go_wp2_with fail
      refine (hg_alpha _).out.mono ?_
      rintro e w9 ⟨rfl, hb9⟩
      have HB9 := Lib.hid (below_thn HB8.out (Nat.le_refl _) hb9)
      have HD9 := Lib.hid (below_thn HD8.out (Nat.le_refl _) hb9)
      clear hb9
      unfold SV
      go_wp2_with fail
      refine (hg_alpha _).out.mono ?_
      rintro e w10 ⟨rfl, hb10⟩
      have HB10 := Lib.hid (below_thn HB9.out (Nat.le_refl _) hb10)
      have HD10 := Lib.hid (below_thn HD9.out (Nat.le_refl _) hb10)
      clear hb10
      go_wp2_with fail
      refine (hg_digit _).out.mono ?_
      rintro e w11 ⟨rfl, hb11⟩
      have HB11 := Lib.hid (below_thn HB10.out (Nat.le_refl _) hb11)
      have HD11 := Lib.hid (below_thn HD10.out (Nat.le_refl _) hb11)
      clear hb11
      unfold SV
      go_wp2_with fail
      refine (unionL _ cls_alpha cls_digit _).mono ?_
      rintro e w12 ⟨rfl, hb12⟩
      have HB12 := Lib.hid (below_thn HB11.out (Nat.le_refl _) hb12)
      have HD12 := Lib.hid (below_thn HD11.out (Nat.le_refl _) hb12)
      clear hb12
      go_wp2_with fail
      refine (hg_alnum _).out.mono ?_
      rintro e w13 ⟨rfl, hb13⟩
      have HB13 := Lib.hid (below_thn HB12.out (Nat.le_refl _) hb13)
      have HD13 := Lib.hid (below_thn HD12.out (Nat.le_refl _) hb13)
      clear hb13
      unfold SV
      go_wp2_with fail
      refine (hg_alnum _).out.mono ?_
      rintro e w14 ⟨rfl, hb14⟩
      have HB14 := Lib.hid (below_thn HB13.out (Nat.le_refl _) hb14)
      have HD14 := Lib.hid (below_thn HD13.out (Nat.le_refl _) hb14)
      clear hb14
      go_wp2_with fail
      refine (hg_punct _).out.mono ?_
      rintro e w15 ⟨rfl, hb15⟩
      have HB15 := Lib.hid (below_thn HB14.out (Nat.le_refl _) hb15)
      have HD15 := Lib.hid (below_thn HD14.out (Nat.le_refl _) hb15)
      clear hb15
      unfold SV
      go_wp2_with fail
      refine (unionL _ cls_alnum cls_punct _).mono ?_
      rintro e w16 ⟨rfl, hb16⟩
      have HB16 := Lib.hid (below_thn HB15.out (Nat.le_refl _) hb16)
      have HD16 := Lib.hid (below_thn HD15.out (Nat.le_refl _) hb16)
      clear hb16
      go_wp2_with fail
      refine (hg_graph _).out.mono ?_
      rintro e w17 ⟨rfl, hb17⟩
      have HB17 := Lib.hid (below_thn HB16.out (Nat.le_refl _) hb17)
      have HD17 := Lib.hid (below_thn HD16.out (Nat.le_refl _) hb17)
      clear hb17
      unfold SV
      go_wp2_with fail
      refine (hg_graph _).out.mono ?_
      rintro e w18 ⟨rfl, hb18⟩
      have HB18 := Lib.hid (below_thn HB17.out (Nat.le_refl _) hb18)
      have HD18 := Lib.hid (below_thn HD17.out (Nat.le_refl _) hb18)
      clear hb18
      unfold SV
      go_wp2_with fail
      refine (HLG _).out.mono ?_
      rintro e w19 ⟨rfl, hb19⟩
      have HB19 := Lib.hid (below_thn HB18.out (Nat.le_refl _) hb19)
      have HD19 := Lib.hid (below_thn HD18.out (Nat.le_refl _) hb19)
      clear hb19
      have HZ : Hid (Row4 w19 w5.heap.size 0 allP) := Lib.hid (row4_below HR.out HD19.out hz)
      obtain ⟨z0, z1', z2', z3'⟩ := HZ.out
      have z1 : w19.cell? ⟨w5.heap.size, 1, none⟩ = some (.int .u64 (sw allP 1 : Nat)) := z1'
      have z2 : w19.cell? ⟨w5.heap.size, 2, none⟩ = some (.int .u64 (sw allP 2 : Nat)) := z2'
      have z3 : w19.cell? ⟨w5.heap.size, 3, none⟩ = some (.int .u64 (sw allP 3 : Nat)) := z3'
      clear z1' z2' z3'
      go_wp2_with fail
      refine (HLA _).out.mono ?_
      rintro e w20 ⟨rfl, hb20⟩
      have HB20 := Lib.hid (below_thn HB19.out (Nat.le_refl _) hb20)
      have HD20 := Lib.hid (below_thn HD19.out (Nat.le_refl _) hb20)
      clear hb20
      go_wp2_with fail
      refine (hg_xdigit _).out.mono ?_
      rintro e w21 ⟨rfl, hb21⟩
      have HB21 := Lib.hid (below_thn HB20.out (Nat.le_refl _) hb21)
      have HD21 := Lib.hid (below_thn HD20.out (Nat.le_refl _) hb21)
      clear hb21
      unfold SV
      go_wp2_with fail
      refine (HLX _).out.mono ?_
      rintro e w22 ⟨rfl, hb22⟩
      have HB22 := Lib.hid (below_thn HB21.out (Nat.le_refl _) hb22)
      have HD22 := Lib.hid (below_thn HD21.out (Nat.le_refl _) hb22)
      clear hb22
      go_wp2
      go_ret
      exact ⟨rfl, HB22.out⟩
end Go.Proofs.Ytllhpahbpeemaaa
