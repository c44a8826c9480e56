/- One table of classes for the program and the reference (gen_cx2.py). -/
import Derived.Test.YtoodpajbefffhaaDoorSeCxB
import Derived.Test.YtoodpajbefffhaaDoorKRfa
import Derived.Test.YtoodpajbefffhaaDoorKRfb
namespace Go.Proofs.YtoodpajbefffhaaDoor
open Go.RowKit

theorem agree_alpha (c : Nat) (h : c < 256) : cls_alpha c = (orP (rng 97 122) (rng 65 90)) c := by
  have h' : ((List.range 256).all fun c => cls_alpha c == (orP (rng 97 122) (rng 65 90)) c) = true := by kernel_rfl
  simpa using List.all_eq_true.1 h' c (by simpa using h)
theorem agree_digit (c : Nat) (h : c < 256) : cls_digit c = (rng 48 57) c := by
  have h' : ((List.range 256).all fun c => cls_digit c == (rng 48 57) c) = true := by kernel_rfl
  simpa using List.all_eq_true.1 h' c (by simpa using h)
theorem agree_alnum (c : Nat) (h : c < 256) : cls_alnum c = (orP (orP (rng 97 122) (rng 65 90)) (rng 48 57)) c := by
  have h' : ((List.range 256).all fun c => cls_alnum c == (orP (orP (rng 97 122) (rng 65 90)) (rng 48 57)) c) = true := by kernel_rfl
  simpa using List.all_eq_true.1 h' c (by simpa using h)
theorem agree_upper (c : Nat) (h : c < 256) : cls_upper c = (rng 65 90) c := by
  have h' : ((List.range 256).all fun c => cls_upper c == (rng 65 90) c) = true := by kernel_rfl
  simpa using List.all_eq_true.1 h' c (by simpa using h)
theorem agree_lower (c : Nat) (h : c < 256) : cls_lower c = (rng 97 122) c := by
  have h' : ((List.range 256).all fun c => cls_lower c == (rng 97 122) c) = true := by kernel_rfl
  simpa using List.all_eq_true.1 h' c (by simpa using h)
theorem agree_space (c : Nat) (h : c < 256) : cls_space c = (orP (rng 9 13) (rng 32 32)) c := by
  have h' : ((List.range 256).all fun c => cls_space c == (orP (rng 9 13) (rng 32 32)) c) = true := by kernel_rfl
  simpa using List.all_eq_true.1 h' c (by simpa using h)
theorem agree_blank (c : Nat) (h : c < 256) : cls_blank c = (orP (rng 9 9) (rng 32 32)) c := by
  have h' : ((List.range 256).all fun c => cls_blank c == (orP (rng 9 9) (rng 32 32)) c) = true := by kernel_rfl
  simpa using List.all_eq_true.1 h' c (by simpa using h)
theorem agree_print (c : Nat) (h : c < 256) : cls_print c = (orP (rng 33 126) (rng 32 32)) c := by
  have h' : ((List.range 256).all fun c => cls_print c == (orP (rng 33 126) (rng 32 32)) c) = true := by kernel_rfl
  simpa using List.all_eq_true.1 h' c (by simpa using h)
theorem agree_graph (c : Nat) (h : c < 256) : cls_graph c = (rng 33 126) c := by
  have h' : ((List.range 256).all fun c => cls_graph c == (rng 33 126) c) = true := by kernel_rfl
  simpa using List.all_eq_true.1 h' c (by simpa using h)
theorem agree_punct (c : Nat) (h : c < 256) : cls_punct c = (fun c => !orP (fun c => !rng 33 126 c) (orP (orP (rng 97 122) (rng 65 90)) (rng 48 57)) c) c := by
  have h' : ((List.range 256).all fun c => cls_punct c == (fun c => !orP (fun c => !rng 33 126 c) (orP (orP (rng 97 122) (rng 65 90)) (rng 48 57)) c) c) = true := by kernel_rfl
  simpa using List.all_eq_true.1 h' c (by simpa using h)
theorem agree_cntrl (c : Nat) (h : c < 256) : cls_cntrl c = (orP (rng 0 31) (rng 127 127)) c := by
  have h' : ((List.range 256).all fun c => cls_cntrl c == (orP (rng 0 31) (rng 127 127)) c) = true := by kernel_rfl
  simpa using List.all_eq_true.1 h' c (by simpa using h)
theorem agree_xdigit (c : Nat) (h : c < 256) : cls_xdigit c = (orP (rng 48 57) (orP (rng 97 102) (rng 65 70))) c := by
  have h' : ((List.range 256).all fun c => cls_xdigit c == (orP (rng 48 57) (orP (rng 97 102) (rng 65 70))) c) = true := by kernel_rfl
  simpa using List.all_eq_true.1 h' c (by simpa using h)
/-- The reference's Class tells the same table. -/
def ClassRf (cf : ByteArray → (Nat → Bool) × Bool) : Prop := ∀ nm w, Calls Tryd.prog 38 #[.string nm] w fun e w' => e = .returned (.tuple #[SV (cf nm).1, .bool (cf nm).2]) ∧ Below w.heap.size w w'
theorem class_row2 (nm : ByteArray) : ∃ x : (Nat → Bool) × Bool, (x.2 = false → ∀ c, c < 256 → x.1 c = false) ∧ (nm = ⟨#[]⟩ → x.2 = false) ∧
    (∀ w, Calls Tryd.prog 88 #[.string nm] w fun e w' => e = .returned (.tuple #[SV x.1, .bool x.2]) ∧ Below w.heap.size w w') ∧
    (∀ w, Calls Tryd.prog 38 #[.string nm] w fun e w' => e = .returned (.tuple #[SV x.1, .bool x.2]) ∧ Below w.heap.size w w') := by
  by_cases h_alpha : nm = ⟨#[97, 108, 112, 104, 97]⟩
  · subst h_alpha
    refine ⟨(cls_alpha, true), ?_, ?_, fun w => ?_, fun w => ?_⟩
    · intro h; cases h
    · intro h; exact absurd (congrArg ByteArray.size h) (by decide)
    · have := class_of _ _ (fun w => named_alpha w) w
      rwa [show anyS cls_alpha = true by kernel_rfl] at this
    · have := rclass_alpha w
      rwa [← SV_congr agree_alpha] at this
  by_cases h_digit : nm = ⟨#[100, 105, 103, 105, 116]⟩
  · subst h_digit
    refine ⟨(cls_digit, true), ?_, ?_, fun w => ?_, fun w => ?_⟩
    · intro h; cases h
    · intro h; exact absurd (congrArg ByteArray.size h) (by decide)
    · have := class_of _ _ (fun w => named_digit w) w
      rwa [show anyS cls_digit = true by kernel_rfl] at this
    · have := rclass_digit w
      rwa [← SV_congr agree_digit] at this
  by_cases h_alnum : nm = ⟨#[97, 108, 110, 117, 109]⟩
  · subst h_alnum
    refine ⟨(cls_alnum, true), ?_, ?_, fun w => ?_, fun w => ?_⟩
    · intro h; cases h
    · intro h; exact absurd (congrArg ByteArray.size h) (by decide)
    · have := class_of _ _ (fun w => named_alnum w) w
      rwa [show anyS cls_alnum = true by kernel_rfl] at this
    · have := rclass_alnum w
      rwa [← SV_congr agree_alnum] at this
  by_cases h_upper : nm = ⟨#[117, 112, 112, 101, 114]⟩
  · subst h_upper
    refine ⟨(cls_upper, true), ?_, ?_, fun w => ?_, fun w => ?_⟩
    · intro h; cases h
    · intro h; exact absurd (congrArg ByteArray.size h) (by decide)
    · have := class_of _ _ (fun w => named_upper w) w
      rwa [show anyS cls_upper = true by kernel_rfl] at this
    · have := rclass_upper w
      rwa [← SV_congr agree_upper] at this
  by_cases h_lower : nm = ⟨#[108, 111, 119, 101, 114]⟩
  · subst h_lower
    refine ⟨(cls_lower, true), ?_, ?_, fun w => ?_, fun w => ?_⟩
    · intro h; cases h
    · intro h; exact absurd (congrArg ByteArray.size h) (by decide)
    · have := class_of _ _ (fun w => named_lower w) w
      rwa [show anyS cls_lower = true by kernel_rfl] at this
    · have := rclass_lower w
      rwa [← SV_congr agree_lower] at this
  by_cases h_space : nm = ⟨#[115, 112, 97, 99, 101]⟩
  · subst h_space
    refine ⟨(cls_space, true), ?_, ?_, fun w => ?_, fun w => ?_⟩
    · intro h; cases h
    · intro h; exact absurd (congrArg ByteArray.size h) (by decide)
    · have := class_of _ _ (fun w => named_space w) w
      rwa [show anyS cls_space = true by kernel_rfl] at this
    · have := rclass_space w
      rwa [← SV_congr agree_space] at this
  by_cases h_blank : nm = ⟨#[98, 108, 97, 110, 107]⟩
  · subst h_blank
    refine ⟨(cls_blank, true), ?_, ?_, fun w => ?_, fun w => ?_⟩
    · intro h; cases h
    · intro h; exact absurd (congrArg ByteArray.size h) (by decide)
    · have := class_of _ _ (fun w => named_blank w) w
      rwa [show anyS cls_blank = true by kernel_rfl] at this
    · have := rclass_blank w
      rwa [← SV_congr agree_blank] at this
  by_cases h_print : nm = ⟨#[112, 114, 105, 110, 116]⟩
  · subst h_print
    refine ⟨(cls_print, true), ?_, ?_, fun w => ?_, fun w => ?_⟩
    · intro h; cases h
    · intro h; exact absurd (congrArg ByteArray.size h) (by decide)
    · have := class_of _ _ (fun w => named_print w) w
      rwa [show anyS cls_print = true by kernel_rfl] at this
    · have := rclass_print w
      rwa [← SV_congr agree_print] at this
  by_cases h_graph : nm = ⟨#[103, 114, 97, 112, 104]⟩
  · subst h_graph
    refine ⟨(cls_graph, true), ?_, ?_, fun w => ?_, fun w => ?_⟩
    · intro h; cases h
    · intro h; exact absurd (congrArg ByteArray.size h) (by decide)
    · have := class_of _ _ (fun w => named_graph w) w
      rwa [show anyS cls_graph = true by kernel_rfl] at this
    · have := rclass_graph w
      rwa [← SV_congr agree_graph] at this
  by_cases h_punct : nm = ⟨#[112, 117, 110, 99, 116]⟩
  · subst h_punct
    refine ⟨(cls_punct, true), ?_, ?_, fun w => ?_, fun w => ?_⟩
    · intro h; cases h
    · intro h; exact absurd (congrArg ByteArray.size h) (by decide)
    · have := class_of _ _ (fun w => named_punct w) w
      rwa [show anyS cls_punct = true by kernel_rfl] at this
    · have := rclass_punct w
      rwa [← SV_congr agree_punct] at this
  by_cases h_cntrl : nm = ⟨#[99, 110, 116, 114, 108]⟩
  · subst h_cntrl
    refine ⟨(cls_cntrl, true), ?_, ?_, fun w => ?_, fun w => ?_⟩
    · intro h; cases h
    · intro h; exact absurd (congrArg ByteArray.size h) (by decide)
    · have := class_of _ _ (fun w => named_cntrl w) w
      rwa [show anyS cls_cntrl = true by kernel_rfl] at this
    · have := rclass_cntrl w
      rwa [← SV_congr agree_cntrl] at this
  by_cases h_xdigit : nm = ⟨#[120, 100, 105, 103, 105, 116]⟩
  · subst h_xdigit
    refine ⟨(cls_xdigit, true), ?_, ?_, fun w => ?_, fun w => ?_⟩
    · intro h; cases h
    · intro h; exact absurd (congrArg ByteArray.size h) (by decide)
    · have := class_of _ _ (fun w => named_xdigit w) w
      rwa [show anyS cls_xdigit = true by kernel_rfl] at this
    · have := rclass_xdigit w
      rwa [← SV_congr agree_xdigit] at this
  refine ⟨(noP, false), fun _ _ _ => rfl, fun _ => rfl, fun w => ?_, fun w => ?_⟩
  · have := class_of nm noP (fun w => named_other nm (tl_noX nm [97, 108, 112, 104, 97] h_alpha) (tl_noX nm [100, 105, 103, 105, 116] h_digit) (tl_noX nm [97, 108, 110, 117, 109] h_alnum) (tl_noX nm [117, 112, 112, 101, 114] h_upper) (tl_noX nm [108, 111, 119, 101, 114] h_lower) (tl_noX nm [115, 112, 97, 99, 101] h_space) (tl_noX nm [98, 108, 97, 110, 107] h_blank) (tl_noX nm [112, 114, 105, 110, 116] h_print) (tl_noX nm [103, 114, 97, 112, 104] h_graph) (tl_noX nm [112, 117, 110, 99, 116] h_punct) (tl_noX nm [99, 110, 116, 114, 108] h_cntrl) (tl_noX nm [120, 100, 105, 103, 105, 116] h_xdigit) w) w
    rwa [show anyS noP = false by kernel_rfl] at this
  · exact rclass_other nm (tl_noX nm [97, 108, 112, 104, 97] h_alpha) (tl_noX nm [100, 105, 103, 105, 116] h_digit) (tl_noX nm [97, 108, 110, 117, 109] h_alnum) (tl_noX nm [117, 112, 112, 101, 114] h_upper) (tl_noX nm [108, 111, 119, 101, 114] h_lower) (tl_noX nm [115, 112, 97, 99, 101] h_space) (tl_noX nm [98, 108, 97, 110, 107] h_blank) (tl_noX nm [112, 114, 105, 110, 116] h_print) (tl_noX nm [103, 114, 97, 112, 104] h_graph) (tl_noX nm [112, 117, 110, 99, 116] h_punct) (tl_noX nm [99, 110, 116, 114, 108] h_cntrl) (tl_noX nm [120, 100, 105, 103, 105, 116] h_xdigit) w
theorem classes_ok2 : ∃ cf : ByteArray → (Nat → Bool) × Bool, ClassOk cf ∧ ClassRf cf :=
  ⟨fun nm => (class_row2 nm).choose, ⟨fun nm => (class_row2 nm).choose_spec.1, (class_row2 ⟨#[]⟩).choose_spec.2.1 rfl, fun nm w => (class_row2 nm).choose_spec.2.2.1 w⟩, fun nm w => (class_row2 nm).choose_spec.2.2.2 w⟩
end Go.Proofs.YtoodpajbefffhaaDoor
