/- From the row's condition on the listed tables to TB; the statement on what is written and read, its call opened. -/
import Derived.Test.YtnpjbpchnkobnaaDoorScBack
import Derived.Test.YtnpjbpchnkobnaaDoorRows
import Derived.ProofKit
import Derived.LaidMore
import Derived.Stop.LaidErr
import Derived.Lib.LaidTab
import Derived.ChangeSlices
namespace Go.Proofs.YtnpjbpchnkobnaaDoor
open Go.RowKit

def bruijn : List Int := [0, 1, 56, 2, 57, 49, 28, 3, 61, 58, 42, 50, 38, 29, 17, 4, 62, 47, 59, 36, 45, 43, 51, 22, 53, 39, 33, 30, 24, 18, 12, 5, 63, 55, 48, 27, 60, 41, 37, 16, 46, 35, 44, 21, 52, 32, 23, 11, 54, 26, 40, 15, 34, 20, 31, 10, 25, 14, 19, 9, 13, 8, 7, 6]

theorem tb_of_laid {W : World} {L : List (String × DataW Unit)} (hH : L.filter (fun x => x.2.handleName?.isSome) = [])
    (hL : ∃ x r, L = x :: ("math/bits.deBruijn64tab", Lib.tabData .u8 bruijn) :: ("internal/strconv.uint64pow10", Lib.tabData .u64 Lib.pow10Tab) :: r)
    (h : laidMetH Tryd.prog L W) : TB W := by
  unfold laidMetH at h
  rw [hH] at h
  obtain ⟨x, r, rfl⟩ := hL
  have h1 := laidMet.tail h
  have h2 := laidMet.tail h1
  have t1 := Lib.tabIs_of_head (g := 6) (t := 95) (e := 5) (n := 64) (by kernel_rfl) (by kernel_rfl) (by kernel_rfl) (by kernel_rfl) (by kernel_rfl) (by kernel_rfl) h1
  have t2 := Lib.tabIs_of_head (g := 0) (t := 75) (e := 22) (n := 20) (by kernel_rfl) (by kernel_rfl) (by kernel_rfl) (by kernel_rfl) (by kernel_rfl) (by kernel_rfl) h2
  have hg : Tryd.prog.globalNamed "math/bits.deBruijn64tab" = some 6 := by kernel_rfl
  exact ⟨t2, t1.cell hg 1 (by decide), t1.cell hg 3 (by decide), t1.cell hg 7 (by decide), t1.cell hg 15 (by decide)⟩

theorem wf64 {n : Int} (h : (Lit.int .i64 n).wf = true) : -9223372036854775808 ≤ n ∧ n ≤ 9223372036854775807 := by
  simpa [Lit.wf, IntKind.min, IntKind.max, IntKind.signed, IntKind.bits] using h

theorem scanBack_open {H : Type} {enc : TypeId × Value → H} {d0 d1 d2 : DataW H} {p0 p1 p2 : List MemPlace} {q : Prop} (W : World) (base : Nat) (v0 v1 v2 : Value)
    (h0 : DataW.Trod enc Tryd.prog W 0 (fun _ => true) true 2 v0 d0 p0) (h1 : DataW.Trod enc Tryd.prog W 0 (fun _ => true) true 3 v1 d1 p1) (h2 : DataW.Trod enc Tryd.prog W 0 (fun _ => true) true 4 v2 d2 p2)
    (k0 : Value.okWide Tryd.prog W .any base 2 v0) (k1 : Value.okWide Tryd.prog W .any base 3 v1) (k2 : Value.okWide Tryd.prog W .any base 4 v2) (_ : q) (hL : laidMetH Tryd.prog Rows.scanBackRow.laid W) :
    Calls Tryd.prog 4 #[v0, v1, v2] W fun e W' => e = .returned (.bool true) ∧ Below W.heap.size W W' := by
  obtain ⟨n, rfl, rfl, rfl, wx⟩ := ChangeShapes.open_int Tryd.underlying2 k0 h0
  obtain ⟨b, rfl, rfl, rfl, wy⟩ := ChangeShapes.open_int Tryd.underlying3 k1 h1
  obtain ⟨up, rfl, _⟩ := RowKit.open_bool Tryd.underlying4 k2 h2
  have hT : TB W := tb_of_laid (by kernel_rfl) ⟨("math/bits.deBruijn32tab", Rows.laid_math_bits_deBruijn32tab), [("unicode/utf8.acceptRanges", Rows.laid_unicode_utf8_acceptRanges), ("unicode.CaseRanges", Rows.laid_unicode_CaseRanges), ("unicode/utf8.first", Rows.laid_unicode_utf8_first)], by kernel_rfl⟩ hL
  exact lawBack_any n b up W (wf64 wx).1 (wf64 wx).2 hT
end Go.Proofs.YtnpjbpchnkobnaaDoor
