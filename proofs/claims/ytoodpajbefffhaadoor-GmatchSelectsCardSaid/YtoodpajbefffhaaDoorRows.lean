/-
  NARROWER THAN 'FOR EVERY INPUT', by the rows' own cells (each row's printed sentence says how): GmatchSelects: laid.
  DERIVED. THE GIVEN ROWS OF THIS SEAT. 1 by the template 'for every input the law returns true; each argument reads behind the call as it read before'; 0 by the template 'total and deterministic' (their statements: YtoodpajbefffhaaDoorTotals.lean).
  GIVEN WITH THE SEED: the statements are not yours to turn. If you find one false, say at which input.
  Laid BY PROGRAM, IN A SANDBOX (cutbox-rows.mjs): the forced cells as the released guide's own fill.sh prints them over the translation d7a3d192a8ce3d81… (all of the seat's roots in one cut). By AI agents, Wed Nov 11 2026. No macro, syntax, notation, axiom, sorry.
-/
import Derived.Test.YtoodpajbefffhaaDoorChecked
import GoSem.Claim
import GoSem.ClaimJoined
import GoSem.ClaimMapViews
import Derived.JoinedTies
import Derived.KernelRfl
namespace Go.Proofs.YtoodpajbefffhaaDoor
/- THE CELL 'sum', in the pinned program and in every row, IS THE sha256 OF THE DUMP (.gsa) THAT YtoodpajbefffhaaDoorProg.lean LOADS. Nothing in Lean hashes anything: it is a label: what it is worth is what the hold of that sum in a sandbox is worth. -/
noncomputable def Tryd.pinned : Pinned := { name := "ytoodpajbefffhaadoor", sum := "d7a3d192a8ce3d81a28e47c6e3f5511844a8998febe812546705272727241efe", checked := Tryd.checked }
namespace Rows
def none {H : Type} : Left H := { results := [], args := [] }

/- WHAT THE LISTED PACKAGE-LEVEL VARIABLES READ AS WHEN THE CALL BEGINS. Each datum BY PROGRAM (the guide's laid-datum.mjs) off the statement by which the dump's own 'gosem.cut.vars' lays the variable. In a bare row this is a premise. The card (YtoodpajbefffhaaDoorCards.lean) ties it to the program's text. -/
def laid_math_bits_deBruijn64tab {H : Type} : DataW H := .agg [.lit (.int .u8 0), .lit (.int .u8 1), .lit (.int .u8 56), .lit (.int .u8 2), .lit (.int .u8 57), .lit (.int .u8 49), .lit (.int .u8 28), .lit (.int .u8 3), .lit (.int .u8 61), .lit (.int .u8 58), .lit (.int .u8 42), .lit (.int .u8 50), .lit (.int .u8 38), .lit (.int .u8 29), .lit (.int .u8 17), .lit (.int .u8 4), .lit (.int .u8 62), .lit (.int .u8 47), .lit (.int .u8 59), .lit (.int .u8 36), .lit (.int .u8 45), .lit (.int .u8 43), .lit (.int .u8 51), .lit (.int .u8 22), .lit (.int .u8 53), .lit (.int .u8 39), .lit (.int .u8 33), .lit (.int .u8 30), .lit (.int .u8 24), .lit (.int .u8 18), .lit (.int .u8 12), .lit (.int .u8 5), .lit (.int .u8 63), .lit (.int .u8 55), .lit (.int .u8 48), .lit (.int .u8 27), .lit (.int .u8 60), .lit (.int .u8 41), .lit (.int .u8 37), .lit (.int .u8 16), .lit (.int .u8 46), .lit (.int .u8 35), .lit (.int .u8 44), .lit (.int .u8 21), .lit (.int .u8 52), .lit (.int .u8 32), .lit (.int .u8 23), .lit (.int .u8 11), .lit (.int .u8 54), .lit (.int .u8 26), .lit (.int .u8 40), .lit (.int .u8 15), .lit (.int .u8 34), .lit (.int .u8 20), .lit (.int .u8 31), .lit (.int .u8 10), .lit (.int .u8 25), .lit (.int .u8 14), .lit (.int .u8 19), .lit (.int .u8 9), .lit (.int .u8 13), .lit (.int .u8 8), .lit (.int .u8 7), .lit (.int .u8 6)]
def laid_pidgin_fault_errArg {H : Type} : DataW H := .iface "*errors.errorString" (.ptr (.agg [.lit (.string [97, 114, 103, 117, 109, 101, 110, 116])]))
def laid_pidgin_fault_errLong {H : Type} : DataW H := .iface "*errors.errorString" (.ptr (.agg [.lit (.string [108, 111, 110, 103])]))
def laid_pidgin_fault_errSyntax {H : Type} : DataW H := .iface "*errors.errorString" (.ptr (.agg [.lit (.string [115, 121, 110, 116, 97, 120])]))
def laid_pidgin_fault_errDeep {H : Type} : DataW H := .iface "*errors.errorString" (.ptr (.agg [.lit (.string [100, 101, 101, 112])]))
def laid_pidgin_fault_errMany {H : Type} : DataW H := .iface "*errors.errorString" (.ptr (.agg [.lit (.string [109, 97, 110, 121])]))
def laid_pidgin_fault_errNumber {H : Type} : DataW H := .iface "*errors.errorString" (.ptr (.agg [.lit (.string [110, 117, 109, 98, 101, 114])]))
def laid_pidgin_fault_errRange {H : Type} : DataW H := .iface "*errors.errorString" (.ptr (.agg [.lit (.string [114, 97, 110, 103, 101])]))
def laid_pidgin_fault_errBracket {H : Type} : DataW H := .iface "*errors.errorString" (.ptr (.agg [.lit (.string [98, 114, 97, 99, 107, 101, 116])]))
def laid_pidgin_fault_errGroup {H : Type} : DataW H := .iface "*errors.errorString" (.ptr (.agg [.lit (.string [103, 114, 111, 117, 112])]))
def laid_pidgin_fault_errEscape {H : Type} : DataW H := .iface "*errors.errorString" (.ptr (.agg [.lit (.string [101, 115, 99, 97, 112, 101])]))
def laid_pidgin_fault_errStates {H : Type} : DataW H := .iface "*errors.errorString" (.ptr (.agg [.lit (.string [115, 116, 97, 116, 101, 115])]))
def laid_pidgin_fault_errDivide {H : Type} : DataW H := .iface "*errors.errorString" (.ptr (.agg [.lit (.string [100, 105, 118, 105, 100, 101])]))
def laid_pidgin_fault_errValue {H : Type} : DataW H := .iface "*errors.errorString" (.ptr (.agg [.lit (.string [118, 97, 108, 117, 101])]))
def laid_pidgin_fault_errOperand {H : Type} : DataW H := .iface "*errors.errorString" (.ptr (.agg [.lit (.string [111, 112, 101, 114, 97, 110, 100])]))
def laid_pidgin_fault_errName {H : Type} : DataW H := .iface "*errors.errorString" (.ptr (.agg [.lit (.string [110, 97, 109, 101])]))
def laid_pidgin_fault_errFile {H : Type} : DataW H := .iface "*errors.errorString" (.ptr (.agg [.lit (.string [102, 105, 108, 101])]))
def laid_pidgin_fault_errDir {H : Type} : DataW H := .iface "*errors.errorString" (.ptr (.agg [.lit (.string [100, 105, 114])]))
def laid_pidgin_fault_errExists {H : Type} : DataW H := .iface "*errors.errorString" (.ptr (.agg [.lit (.string [101, 120, 105, 115, 116, 115])]))
def laid_pidgin_fault_errFull {H : Type} : DataW H := .iface "*errors.errorString" (.ptr (.agg [.lit (.string [102, 117, 108, 108])]))
def laid_pidgin_fault_errLabel {H : Type} : DataW H := .iface "*errors.errorString" (.ptr (.agg [.lit (.string [108, 97, 98, 101, 108])]))
def laid_pidgin_fault_errFuel {H : Type} : DataW H := .iface "*errors.errorString" (.ptr (.agg [.lit (.string [102, 117, 101, 108])]))

/-- 'pidginlaw7.GmatchSelects': WHATEVER THE INPUT: true; the input reads as it did. -/
def gmatchSelectsSpec : ChangeSpec := { name := "gmatchSelects", fn := fun _ => fun
  | [d1, d2] => { results := [.lit (.bool true)], args := [d1, d2] }
  | _ => none }
def gmatchSelectsRow : OpenClaim := { program := "ytoodpajbefffhaadoor", sum := "d7a3d192a8ce3d81a28e47c6e3f5511844a8998febe812546705272727241efe", func := "pidgin/pidginlaw7.GmatchSelects", spec := "gmatchSelects", recurses := true, named := ["pidgin/fault.errArg", "pidgin/fault.errLong", "pidgin/fault.errSyntax", "pidgin/fault.errDeep", "pidgin/fault.errMany", "pidgin/fault.errNumber", "pidgin/fault.errRange", "pidgin/fault.errBracket", "pidgin/fault.errGroup", "pidgin/fault.errEscape", "pidgin/fault.errStates", "pidgin/fault.errDivide", "pidgin/fault.errValue", "pidgin/fault.errOperand", "pidgin/fault.errName", "pidgin/fault.errFile", "pidgin/fault.errDir", "pidgin/fault.errExists", "pidgin/fault.errFull", "pidgin/fault.errLabel", "pidgin/fault.errFuel", "math/bits.deBruijn64tab"], apart := false, laid := [("math/bits.deBruijn64tab", laid_math_bits_deBruijn64tab), ("pidgin/fault.errArg", laid_pidgin_fault_errArg), ("pidgin/fault.errLong", laid_pidgin_fault_errLong), ("pidgin/fault.errSyntax", laid_pidgin_fault_errSyntax), ("pidgin/fault.errDeep", laid_pidgin_fault_errDeep), ("pidgin/fault.errMany", laid_pidgin_fault_errMany), ("pidgin/fault.errNumber", laid_pidgin_fault_errNumber), ("pidgin/fault.errRange", laid_pidgin_fault_errRange), ("pidgin/fault.errBracket", laid_pidgin_fault_errBracket), ("pidgin/fault.errGroup", laid_pidgin_fault_errGroup), ("pidgin/fault.errEscape", laid_pidgin_fault_errEscape), ("pidgin/fault.errStates", laid_pidgin_fault_errStates), ("pidgin/fault.errDivide", laid_pidgin_fault_errDivide), ("pidgin/fault.errValue", laid_pidgin_fault_errValue), ("pidgin/fault.errOperand", laid_pidgin_fault_errOperand), ("pidgin/fault.errName", laid_pidgin_fault_errName), ("pidgin/fault.errFile", laid_pidgin_fault_errFile), ("pidgin/fault.errDir", laid_pidgin_fault_errDir), ("pidgin/fault.errExists", laid_pidgin_fault_errExists), ("pidgin/fault.errFull", laid_pidgin_fault_errFull), ("pidgin/fault.errLabel", laid_pidgin_fault_errLabel), ("pidgin/fault.errFuel", laid_pidgin_fault_errFuel)] }
def GmatchSelectsSaid : Prop := gmatchSelectsRow.holds Tryd.pinned (OpenSpec.ofChange gmatchSelectsSpec)

/-- ITS FALSE NEIGHBOUR: 'it returns false'. Refute it at one input. -/
def gmatchSelectsWrong : ChangeSpec := { name := "gmatchSelects", fn := fun _ => fun
  | [d1, d2] => { results := [.lit (.bool false)], args := [d1, d2] }
  | _ => none }
def GmatchSelectsWrongFalsely : Prop := gmatchSelectsRow.holds Tryd.pinned (OpenSpec.ofChange gmatchSelectsWrong)

/- THE SECOND FORM. 'bulk': how many values and letters a reading holds, each counted each time it is reached (what is shared counts as often as it is met; a slice's spare places count too). A statement '..UptoSaid' is the law's where the arguments, and the package variables that the reading takes, are together of bulk at most 1048576: NARROWER than '..Said'. Prove '..Said' where nothing that the law and all that it calls make is longer than what came in: it says more and counts as full. Else prove '..UptoSaid'. A law counts once. -/
mutual
def uptoBulk {H : Type} : DataW H → Nat
  | .lit (.string bytes) => bytes.length + 1
  | .lit _ => 1
  | .nil => 1
  | .ptr d => uptoBulk d + 1
  | .slice elems spare => uptoBulkAll elems + uptoBulkAll spare + 1
  | .agg parts => uptoBulkAll parts + 1
  | .iface _ d => uptoBulk d + 1
  | .map entries => uptoBulkEntries entries + 1
  | .held _ => 1
def uptoBulkAll {H : Type} : List (DataW H) → Nat
  | [] => 0
  | d :: r => uptoBulk d + uptoBulkAll r
def uptoBulkEntries {H : Type} : List (Lit × DataW H) → Nat
  | [] => 0
  | x :: r => uptoBulkEntry x + uptoBulkEntries r
def uptoBulkEntry {H : Type} : Lit × DataW H → Nat
  | (.string bytes, d) => bytes.length + uptoBulk d + 1
  | (_, d) => uptoBulk d + 1
 end
def uptoSmall : (H : Type) → List (DataW H) → Bool := fun _ ds => decide (uptoBulkAll ds ≤ 1048576)
def OpenSpec.upto (s : _root_.Go.ChangeSpec) : _root_.Go.OpenSpec := { _root_.Go.OpenSpec.ofChange s with cond := some uptoSmall }

/-- 'pidginlaw7.GmatchSelects', WHERE WHAT IT READS IS OF BULK AT MOST 1048576: true; the input reads as it did. -/
def gmatchSelectsUptoRow : OpenClaim := { program := "ytoodpajbefffhaadoor", sum := "d7a3d192a8ce3d81a28e47c6e3f5511844a8998febe812546705272727241efe", func := "pidgin/pidginlaw7.GmatchSelects", spec := "gmatchSelects", recurses := true, named := ["pidgin/fault.errArg", "pidgin/fault.errLong", "pidgin/fault.errSyntax", "pidgin/fault.errDeep", "pidgin/fault.errMany", "pidgin/fault.errNumber", "pidgin/fault.errRange", "pidgin/fault.errBracket", "pidgin/fault.errGroup", "pidgin/fault.errEscape", "pidgin/fault.errStates", "pidgin/fault.errDivide", "pidgin/fault.errValue", "pidgin/fault.errOperand", "pidgin/fault.errName", "pidgin/fault.errFile", "pidgin/fault.errDir", "pidgin/fault.errExists", "pidgin/fault.errFull", "pidgin/fault.errLabel", "pidgin/fault.errFuel", "math/bits.deBruijn64tab"], apart := false, laid := [("math/bits.deBruijn64tab", laid_math_bits_deBruijn64tab), ("pidgin/fault.errArg", laid_pidgin_fault_errArg), ("pidgin/fault.errLong", laid_pidgin_fault_errLong), ("pidgin/fault.errSyntax", laid_pidgin_fault_errSyntax), ("pidgin/fault.errDeep", laid_pidgin_fault_errDeep), ("pidgin/fault.errMany", laid_pidgin_fault_errMany), ("pidgin/fault.errNumber", laid_pidgin_fault_errNumber), ("pidgin/fault.errRange", laid_pidgin_fault_errRange), ("pidgin/fault.errBracket", laid_pidgin_fault_errBracket), ("pidgin/fault.errGroup", laid_pidgin_fault_errGroup), ("pidgin/fault.errEscape", laid_pidgin_fault_errEscape), ("pidgin/fault.errStates", laid_pidgin_fault_errStates), ("pidgin/fault.errDivide", laid_pidgin_fault_errDivide), ("pidgin/fault.errValue", laid_pidgin_fault_errValue), ("pidgin/fault.errOperand", laid_pidgin_fault_errOperand), ("pidgin/fault.errName", laid_pidgin_fault_errName), ("pidgin/fault.errFile", laid_pidgin_fault_errFile), ("pidgin/fault.errDir", laid_pidgin_fault_errDir), ("pidgin/fault.errExists", laid_pidgin_fault_errExists), ("pidgin/fault.errFull", laid_pidgin_fault_errFull), ("pidgin/fault.errLabel", laid_pidgin_fault_errLabel), ("pidgin/fault.errFuel", laid_pidgin_fault_errFuel)], narrowed := true }
def GmatchSelectsUptoSaid : Prop := gmatchSelectsUptoRow.holds Tryd.pinned (OpenSpec.upto gmatchSelectsSpec)

end Rows
end Go.Proofs.YtoodpajbefffhaaDoor
