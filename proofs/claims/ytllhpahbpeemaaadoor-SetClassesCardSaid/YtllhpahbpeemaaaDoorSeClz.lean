/- The walk of SetClasses. -/
import Derived.Test.YtllhpahbpeemaaaDoorSeCls
import Derived.Test.YtllhpahbpeemaaaDoorSeAwk
import Derived.Test.YtllhpahbpeemaaaDoorSeNamO
import Derived.Test.YtllhpahbpeemaaaDoorScOpen
import Derived.ChangeMaps5
import Derived.Test.YtllhpahbpeemaaaDoorSeNalpha
import Derived.Test.YtllhpahbpeemaaaDoorSeNdigit
import Derived.Test.YtllhpahbpeemaaaDoorSeNalnum
import Derived.Test.YtllhpahbpeemaaaDoorSeNupper
import Derived.Test.YtllhpahbpeemaaaDoorSeNlower
import Derived.Test.YtllhpahbpeemaaaDoorSeNspace
import Derived.Test.YtllhpahbpeemaaaDoorSeNblank
import Derived.Test.YtllhpahbpeemaaaDoorSeNprint
import Derived.Test.YtllhpahbpeemaaaDoorSeNgraph
import Derived.Test.YtllhpahbpeemaaaDoorSeNpunct
import Derived.Test.YtllhpahbpeemaaaDoorSeNcntrl
import Derived.Test.YtllhpahbpeemaaaDoorSeNxdigit
import Derived.Test.YtllhpahbpeemaaaDoorSeRA
import Derived.Test.YtllhpahbpeemaaaDoorSeRB
import Derived.Test.YtllhpahbpeemaaaDoorSeRalpha
import Derived.Test.YtllhpahbpeemaaaDoorSeRalnum
import Derived.Test.YtllhpahbpeemaaaDoorSeRprint
import Derived.Test.YtllhpahbpeemaaaDoorSeRpunct
import Derived.Test.YtllhpahbpeemaaaDoorSeRxdigit
import Derived.Test.YtllhpahbpeemaaaDoorSeRother
namespace Go.Proofs.YtllhpahbpeemaaaDoor
open Go.RowKit

theorem eq_yes (p q : Nat → Bool) (h : ∀ c, c < 256 → p c = q c) (w : World) :
    (Op.equalIn 10000 24 (.agg #[.int .u64 (sw p 0 : Nat), .int .u64 (sw p 1 : Nat), .int .u64 (sw p 2 : Nat), .int .u64 (sw p 3 : Nat)]) (.agg #[.int .u64 (sw q 0 : Nat), .int .u64 (sw q 1 : Nat), .int .u64 (sw q 2 : Nat), .int .u64 (sw q 3 : Nat)])).run Tryd.prog w = .ok true w := by
  have e : ∀ i, i < 4 → sw p i = sw q i := fun i hi => wd_congr fun j hj => h _ (by omega)
  rw [eq_arr 9998, e 0 (by omega), e 1 (by omega), e 2 (by omega), e 3 (by omega)]
  simp
set_option maxRecDepth 100000 in
set_option maxHeartbeats 8000000 in
theorem classes_of (nm : ByteArray) (p q : Nat → Bool) (b : Bool) (hpq : ∀ c, c < 256 → p c = q c)
    (hc : ∀ w, Calls Tryd.prog 27 #[.string nm] w fun e w' => e = .returned (.tuple #[SV p, .bool b]) ∧ Below w.heap.size w w')
    (hr : ∀ w, Calls Tryd.prog 28 #[.string nm] w fun e w' => e = .returned (.tuple #[SV q, .bool b]) ∧ Below w.heap.size w w') (w : World) :
    Calls Tryd.prog 4 #[.string nm] w fun e w' => e = .returned (.bool true) ∧ Below w.heap.size w w' := by
  have HC := Lib.hid hc
  have HR := Lib.hid hr
  have HE := eq_yes p q hpq
  have HA : ∀ w, Hid (Calls Tryd.prog 26 #[] w fun e w' => e = .returned (.bool true) ∧ Below w.heap.size w w') := fun w => Lib.hid (awake5_any w)
  clear hc hr hpq
  cases b
  all_goals
    go_enter Tryd.func4, Tryd.ntmps4
    go_wp2_with fail
    refine (HC.out _).mono ?_
    rintro e w1 ⟨rfl, hb1⟩
    have HB1 := Lib.hid hb1
    clear hb1
    unfold SV
    go_wp2_with fail
    refine (HR.out _).mono ?_
    rintro e w2 ⟨rfl, hb2⟩
    have hz : w1.heap.size < w2.heap.size := by have := hb2.size; simp at this; omega
    have hg := (hb2.block w1.heap.size (by simp)).trans (alloc_last w1 (.cells #[.int .u64 (sw p 0 : Nat), .int .u64 (sw p 1 : Nat), .int .u64 (sw p 2 : Nat), .int .u64 (sw p 3 : Nat)] 24))
    obtain ⟨⟨c0, c1, c2, c3⟩, _, _⟩ := cells4 hg
    have HB2 := Lib.hid (below_thn (HB1.out.alloc HB1.out.size (.cells #[.int .u64 (sw p 0 : Nat), .int .u64 (sw p 1 : Nat), .int .u64 (sw p 2 : Nat), .int .u64 (sw p 3 : Nat)] 24)) (Nat.le_refl _) hb2)
    clear hb2 hg
    unfold SV
    go_wp2_with fail
    refine (HA _).out.mono ?_
    rintro e w3 ⟨rfl, hb3⟩
    have HB3 := Lib.hid (below_thn (HB2.out.alloc HB2.out.size (.cells #[.int .u64 (sw q 0 : Nat), .int .u64 (sw q 1 : Nat), .int .u64 (sw q 2 : Nat), .int .u64 (sw q 3 : Nat)] 24)) (Nat.le_refl _) hb3)
    clear hb3
    go_wp2
    go_ret
    exact ⟨rfl, HB3.out⟩

theorem agree_alpha (c : Nat) (h : c < 256) : cls_alpha c = (orP (rng 97 122) (rng 65 90)) c := by
  have h' : ((List.range 256).all fun c => cls_alpha c == (orP (rng 97 122) (rng 65 90)) c) = true := by kernel_rfl
  simpa using List.all_eq_true.1 h' c (by simpa using h)
theorem classes_alpha (w : World) : Calls Tryd.prog 4 #[.string ⟨#[97, 108, 112, 104, 97]⟩] w fun e w' => e = .returned (.bool true) ∧ Below w.heap.size w w' :=
  classes_of _ cls_alpha _ true agree_alpha (fun w => by have := class_of _ _ (fun w => named_alpha w) w; rwa [show anyS cls_alpha = true by kernel_rfl] at this) (fun w => rclass_alpha w) w
theorem agree_digit (c : Nat) (h : c < 256) : cls_digit c = (rng 48 57) c := by
  have h' : ((List.range 256).all fun c => cls_digit c == (rng 48 57) c) = true := by kernel_rfl
  simpa using List.all_eq_true.1 h' c (by simpa using h)
theorem classes_digit (w : World) : Calls Tryd.prog 4 #[.string ⟨#[100, 105, 103, 105, 116]⟩] w fun e w' => e = .returned (.bool true) ∧ Below w.heap.size w w' :=
  classes_of _ cls_digit _ true agree_digit (fun w => by have := class_of _ _ (fun w => named_digit w) w; rwa [show anyS cls_digit = true by kernel_rfl] at this) (fun w => rclass_digit w) w
theorem agree_alnum (c : Nat) (h : c < 256) : cls_alnum c = (orP (orP (rng 97 122) (rng 65 90)) (rng 48 57)) c := by
  have h' : ((List.range 256).all fun c => cls_alnum c == (orP (orP (rng 97 122) (rng 65 90)) (rng 48 57)) c) = true := by kernel_rfl
  simpa using List.all_eq_true.1 h' c (by simpa using h)
theorem classes_alnum (w : World) : Calls Tryd.prog 4 #[.string ⟨#[97, 108, 110, 117, 109]⟩] w fun e w' => e = .returned (.bool true) ∧ Below w.heap.size w w' :=
  classes_of _ cls_alnum _ true agree_alnum (fun w => by have := class_of _ _ (fun w => named_alnum w) w; rwa [show anyS cls_alnum = true by kernel_rfl] at this) (fun w => rclass_alnum w) w
theorem agree_upper (c : Nat) (h : c < 256) : cls_upper c = (rng 65 90) c := by
  have h' : ((List.range 256).all fun c => cls_upper c == (rng 65 90) c) = true := by kernel_rfl
  simpa using List.all_eq_true.1 h' c (by simpa using h)
theorem classes_upper (w : World) : Calls Tryd.prog 4 #[.string ⟨#[117, 112, 112, 101, 114]⟩] w fun e w' => e = .returned (.bool true) ∧ Below w.heap.size w w' :=
  classes_of _ cls_upper _ true agree_upper (fun w => by have := class_of _ _ (fun w => named_upper w) w; rwa [show anyS cls_upper = true by kernel_rfl] at this) (fun w => rclass_upper w) w
theorem agree_lower (c : Nat) (h : c < 256) : cls_lower c = (rng 97 122) c := by
  have h' : ((List.range 256).all fun c => cls_lower c == (rng 97 122) c) = true := by kernel_rfl
  simpa using List.all_eq_true.1 h' c (by simpa using h)
theorem classes_lower (w : World) : Calls Tryd.prog 4 #[.string ⟨#[108, 111, 119, 101, 114]⟩] w fun e w' => e = .returned (.bool true) ∧ Below w.heap.size w w' :=
  classes_of _ cls_lower _ true agree_lower (fun w => by have := class_of _ _ (fun w => named_lower w) w; rwa [show anyS cls_lower = true by kernel_rfl] at this) (fun w => rclass_lower w) w
theorem agree_space (c : Nat) (h : c < 256) : cls_space c = (orP (rng 9 13) (rng 32 32)) c := by
  have h' : ((List.range 256).all fun c => cls_space c == (orP (rng 9 13) (rng 32 32)) c) = true := by kernel_rfl
  simpa using List.all_eq_true.1 h' c (by simpa using h)
theorem classes_space (w : World) : Calls Tryd.prog 4 #[.string ⟨#[115, 112, 97, 99, 101]⟩] w fun e w' => e = .returned (.bool true) ∧ Below w.heap.size w w' :=
  classes_of _ cls_space _ true agree_space (fun w => by have := class_of _ _ (fun w => named_space w) w; rwa [show anyS cls_space = true by kernel_rfl] at this) (fun w => rclass_space w) w
theorem agree_blank (c : Nat) (h : c < 256) : cls_blank c = (orP (rng 9 9) (rng 32 32)) c := by
  have h' : ((List.range 256).all fun c => cls_blank c == (orP (rng 9 9) (rng 32 32)) c) = true := by kernel_rfl
  simpa using List.all_eq_true.1 h' c (by simpa using h)
theorem classes_blank (w : World) : Calls Tryd.prog 4 #[.string ⟨#[98, 108, 97, 110, 107]⟩] w fun e w' => e = .returned (.bool true) ∧ Below w.heap.size w w' :=
  classes_of _ cls_blank _ true agree_blank (fun w => by have := class_of _ _ (fun w => named_blank w) w; rwa [show anyS cls_blank = true by kernel_rfl] at this) (fun w => rclass_blank w) w
theorem agree_print (c : Nat) (h : c < 256) : cls_print c = (orP (rng 33 126) (rng 32 32)) c := by
  have h' : ((List.range 256).all fun c => cls_print c == (orP (rng 33 126) (rng 32 32)) c) = true := by kernel_rfl
  simpa using List.all_eq_true.1 h' c (by simpa using h)
theorem classes_print (w : World) : Calls Tryd.prog 4 #[.string ⟨#[112, 114, 105, 110, 116]⟩] w fun e w' => e = .returned (.bool true) ∧ Below w.heap.size w w' :=
  classes_of _ cls_print _ true agree_print (fun w => by have := class_of _ _ (fun w => named_print w) w; rwa [show anyS cls_print = true by kernel_rfl] at this) (fun w => rclass_print w) w
theorem agree_graph (c : Nat) (h : c < 256) : cls_graph c = (rng 33 126) c := by
  have h' : ((List.range 256).all fun c => cls_graph c == (rng 33 126) c) = true := by kernel_rfl
  simpa using List.all_eq_true.1 h' c (by simpa using h)
theorem classes_graph (w : World) : Calls Tryd.prog 4 #[.string ⟨#[103, 114, 97, 112, 104]⟩] w fun e w' => e = .returned (.bool true) ∧ Below w.heap.size w w' :=
  classes_of _ cls_graph _ true agree_graph (fun w => by have := class_of _ _ (fun w => named_graph w) w; rwa [show anyS cls_graph = true by kernel_rfl] at this) (fun w => rclass_graph w) w
theorem agree_punct (c : Nat) (h : c < 256) : cls_punct c = (fun c => !orP (fun c => !rng 33 126 c) (orP (orP (rng 97 122) (rng 65 90)) (rng 48 57)) c) c := by
  have h' : ((List.range 256).all fun c => cls_punct c == (fun c => !orP (fun c => !rng 33 126 c) (orP (orP (rng 97 122) (rng 65 90)) (rng 48 57)) c) c) = true := by kernel_rfl
  simpa using List.all_eq_true.1 h' c (by simpa using h)
theorem classes_punct (w : World) : Calls Tryd.prog 4 #[.string ⟨#[112, 117, 110, 99, 116]⟩] w fun e w' => e = .returned (.bool true) ∧ Below w.heap.size w w' :=
  classes_of _ cls_punct _ true agree_punct (fun w => by have := class_of _ _ (fun w => named_punct w) w; rwa [show anyS cls_punct = true by kernel_rfl] at this) (fun w => rclass_punct w) w
theorem agree_cntrl (c : Nat) (h : c < 256) : cls_cntrl c = (orP (rng 0 31) (rng 127 127)) c := by
  have h' : ((List.range 256).all fun c => cls_cntrl c == (orP (rng 0 31) (rng 127 127)) c) = true := by kernel_rfl
  simpa using List.all_eq_true.1 h' c (by simpa using h)
theorem classes_cntrl (w : World) : Calls Tryd.prog 4 #[.string ⟨#[99, 110, 116, 114, 108]⟩] w fun e w' => e = .returned (.bool true) ∧ Below w.heap.size w w' :=
  classes_of _ cls_cntrl _ true agree_cntrl (fun w => by have := class_of _ _ (fun w => named_cntrl w) w; rwa [show anyS cls_cntrl = true by kernel_rfl] at this) (fun w => rclass_cntrl w) w
theorem agree_xdigit (c : Nat) (h : c < 256) : cls_xdigit c = (orP (rng 48 57) (orP (rng 97 102) (rng 65 70))) c := by
  have h' : ((List.range 256).all fun c => cls_xdigit c == (orP (rng 48 57) (orP (rng 97 102) (rng 65 70))) c) = true := by kernel_rfl
  simpa using List.all_eq_true.1 h' c (by simpa using h)
theorem classes_xdigit (w : World) : Calls Tryd.prog 4 #[.string ⟨#[120, 100, 105, 103, 105, 116]⟩] w fun e w' => e = .returned (.bool true) ∧ Below w.heap.size w w' :=
  classes_of _ cls_xdigit _ true agree_xdigit (fun w => by have := class_of _ _ (fun w => named_xdigit w) w; rwa [show anyS cls_xdigit = true by kernel_rfl] at this) (fun w => rclass_xdigit w) w
theorem tl_no (nm : ByteArray) (l : List UInt8) (h : ¬ nm = ⟨l.toArray⟩) : (nm.toList == l) = false := by
  rw [Bool.eq_false_iff]
  intro h'
  rw [beq_iff_eq, ByteArray.toList_eq] at h'
  refine h ?_
  obtain ⟨⟨x⟩⟩ := nm
  simp only at h'
  rw [h']
theorem classes_any (nm : ByteArray) (w : World) : Calls Tryd.prog 4 #[.string nm] w fun e w' => e = .returned (.bool true) ∧ Below w.heap.size w w' := by
  by_cases h_alpha : nm = ⟨#[97, 108, 112, 104, 97]⟩
  · subst h_alpha; exact classes_alpha w
  by_cases h_digit : nm = ⟨#[100, 105, 103, 105, 116]⟩
  · subst h_digit; exact classes_digit w
  by_cases h_alnum : nm = ⟨#[97, 108, 110, 117, 109]⟩
  · subst h_alnum; exact classes_alnum w
  by_cases h_upper : nm = ⟨#[117, 112, 112, 101, 114]⟩
  · subst h_upper; exact classes_upper w
  by_cases h_lower : nm = ⟨#[108, 111, 119, 101, 114]⟩
  · subst h_lower; exact classes_lower w
  by_cases h_space : nm = ⟨#[115, 112, 97, 99, 101]⟩
  · subst h_space; exact classes_space w
  by_cases h_blank : nm = ⟨#[98, 108, 97, 110, 107]⟩
  · subst h_blank; exact classes_blank w
  by_cases h_print : nm = ⟨#[112, 114, 105, 110, 116]⟩
  · subst h_print; exact classes_print w
  by_cases h_graph : nm = ⟨#[103, 114, 97, 112, 104]⟩
  · subst h_graph; exact classes_graph w
  by_cases h_punct : nm = ⟨#[112, 117, 110, 99, 116]⟩
  · subst h_punct; exact classes_punct w
  by_cases h_cntrl : nm = ⟨#[99, 110, 116, 114, 108]⟩
  · subst h_cntrl; exact classes_cntrl w
  by_cases h_xdigit : nm = ⟨#[120, 100, 105, 103, 105, 116]⟩
  · subst h_xdigit; exact classes_xdigit w
  exact classes_of nm noP noP false (fun _ _ => rfl)
    (fun w => by have := class_of nm noP (fun w => named_other nm (tl_no nm [97, 108, 112, 104, 97] h_alpha) (tl_no nm [100, 105, 103, 105, 116] h_digit) (tl_no nm [97, 108, 110, 117, 109] h_alnum) (tl_no nm [117, 112, 112, 101, 114] h_upper) (tl_no nm [108, 111, 119, 101, 114] h_lower) (tl_no nm [115, 112, 97, 99, 101] h_space) (tl_no nm [98, 108, 97, 110, 107] h_blank) (tl_no nm [112, 114, 105, 110, 116] h_print) (tl_no nm [103, 114, 97, 112, 104] h_graph) (tl_no nm [112, 117, 110, 99, 116] h_punct) (tl_no nm [99, 110, 116, 114, 108] h_cntrl) (tl_no nm [120, 100, 105, 103, 105, 116] h_xdigit) w) w; rwa [show anyS noP = false by kernel_rfl] at this)
    (fun w => rclass_other nm (tl_no nm [97, 108, 112, 104, 97] h_alpha) (tl_no nm [100, 105, 103, 105, 116] h_digit) (tl_no nm [97, 108, 110, 117, 109] h_alnum) (tl_no nm [117, 112, 112, 101, 114] h_upper) (tl_no nm [108, 111, 119, 101, 114] h_lower) (tl_no nm [115, 112, 97, 99, 101] h_space) (tl_no nm [98, 108, 97, 110, 107] h_blank) (tl_no nm [112, 114, 105, 110, 116] h_print) (tl_no nm [103, 114, 97, 112, 104] h_graph) (tl_no nm [112, 117, 110, 99, 116] h_punct) (tl_no nm [99, 110, 116, 114, 108] h_cntrl) (tl_no nm [120, 100, 105, 103, 105, 116] h_xdigit) w) w
set_option maxRecDepth 100000 in
theorem setClasses_open {H : Type} {enc : TypeId × Value → H} {d0 : DataW H} {p0 : List MemPlace} {q q' : Prop} (W : World) (base : Nat) (v0 : Value)
    (h0 : DataW.Trod enc Tryd.prog W 0 (fun _ => true) true 9 v0 d0 p0) (k0 : Value.okWide Tryd.prog W .any base 9 v0) (_ : q) (_ : q') :
    Calls Tryd.prog 4 #[v0] W fun e W' => e = .returned (.bool true) ∧ Below W.heap.size W W' := by
  obtain ⟨s, rfl, _, _, _⟩ := Go.ChangeMaps.open_string Tryd.underlying9 k0 h0
  exact classes_any s W
end Go.Proofs.YtllhpahbpeemaaaDoor
