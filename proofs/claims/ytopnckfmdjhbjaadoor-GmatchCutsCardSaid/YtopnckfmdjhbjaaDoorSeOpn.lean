/- A set that comes in, opened; from the row's condition on the table of trailing noughts to TZ. -/
import Derived.Test.YtopnckfmdjhbjaaDoorSeByt
import Derived.Test.YtopnckfmdjhbjaaDoorScOpen
import Derived.Lib.LaidTab
import Derived.LaidMore
import Derived.Stop.LaidErr
import Derived.ChangeMaps5
namespace Go.Proofs.YtopnckfmdjhbjaaDoor
open Go.RowKit

theorem wfu64 {n : Int} (h : (Lit.int .u64 n).wf = true) : 0 ≤ n ∧ n < 18446744073709551616 := by
  have : 0 ≤ n ∧ n ≤ 18446744073709551615 := by simpa [Lit.wf, IntKind.min, IntKind.max, IntKind.signed, IntKind.bits] using h
  omega
/-- Any four words are a set. -/
theorem set_words (a b c d : Nat) (ha : a < 18446744073709551616) (hb : b < 18446744073709551616) (hc : c < 18446744073709551616) (hd : d < 18446744073709551616) :
    ∃ p, Value.agg #[.int .u64 (a : Int), .int .u64 (b : Int), .int .u64 (c : Int), .int .u64 (d : Int)] = SV p := by
  let f : Nat → Nat → Bool := fun i j => if i = 0 then a.testBit j else if i = 1 then b.testBit j else if i = 2 then c.testBit j else d.testBit j
  have e : ∀ (i : Nat) (n : Nat), n < 18446744073709551616 → (∀ j, f i j = n.testBit j) → n = sw (fun x => f (x / 64) (x % 64)) i := fun i n hn h =>
    wd_of hn fun j hj => by
      show n.testBit j = f ((64 * i + j) / 64) ((64 * i + j) % 64)
      rw [show (64 * i + j) / 64 = i by omega, show (64 * i + j) % 64 = j by omega, h]
  refine ⟨fun x => f (x / 64) (x % 64), ?_⟩
  unfold SV
  rw [← e 0 a ha (fun _ => rfl), ← e 1 b hb (fun _ => rfl), ← e 2 c hc (fun _ => rfl), ← e 3 d hd (fun _ => rfl)]

set_option maxRecDepth 100000 in
theorem set_of {H : Type} {enc : TypeId × Value → H} {W : World} {base : Nat} {v : Value} {d : DataW H} {ps : List MemPlace}
    (hk : Value.okWide Tryd.prog W .any base 53 v) (h : DataW.Trod enc Tryd.prog W 0 (fun _ => true) true 53 v d ps) : ∃ p, v = SV p := by
  have hu : Tryd.prog.underlying 53 = some (.array 4 51) := by kernel_rfl
  have hu8 : Tryd.prog.underlying 51 = some (.int .u64) := by kernel_rfl
  have hc1 : Tryd.prog.cellsOf 51 = 1 := by kernel_rfl
  have hc4 : Tryd.prog.cellsOf 53 = 4 := by kernel_rfl
  unfold Value.okWide at hk
  rw [hu] at hk
  simp only at hk
  obtain ⟨cs, rfl, hs, _⟩ := hk
  obtain ⟨fuel, hf⟩ := h
  rw [hc4] at hs
  cases fuel with
  | zero => simp [DataW.trod] at hf
  | succ fuel =>
    simp only [DataW.trod, hu, hc1, hc4, Nat.mul_one] at hf
    split at hf
    · obtain ⟨xs, hm, _⟩ := Option.map_eq_some_iff.1 hf
      have key : ∀ i, i < 4 → ∃ n : Nat, n < 18446744073709551616 ∧ cs[i]? = some (.int .u64 (n : Int)) := fun i hi => by
        obtain ⟨b, _, hfb⟩ := Lib.mapM_at hm i i (by simp [hi])
        obtain ⟨z, hc, _, hw⟩ := DataW.trod_int hu8 hfb
        have h1 : cs[i]? = some (.int .u64 z) := by
          have := congrArg (·[0]?) hc
          simpa [List.getElem?_take, List.getElem?_drop, Value.cells] using this
        have hw' := wfu64 hw
        exact ⟨z.toNat, by omega, by rw [h1, Int.toNat_of_nonneg hw'.1]⟩
      obtain ⟨n0, l0, g0⟩ := key 0 (by omega)
      obtain ⟨n1, l1, g1⟩ := key 1 (by omega)
      obtain ⟨n2, l2, g2⟩ := key 2 (by omega)
      obtain ⟨n3, l3, g3⟩ := key 3 (by omega)
      have hcs : cs = #[.int .u64 (n0 : Int), .int .u64 (n1 : Int), .int .u64 (n2 : Int), .int .u64 (n3 : Int)] := by
        apply Array.ext_getElem?
        intro i
        match i with
        | 0 => rw [g0]; rfl
        | 1 => rw [g1]; rfl
        | 2 => rw [g2]; rfl
        | 3 => rw [g3]; rfl
        | i + 4 => rw [Array.getElem?_eq_none (by omega), Array.getElem?_eq_none (by simp)]
      rw [hcs]
      exact set_words n0 n1 n2 n3 l0 l1 l2 l3
    · cases hf

def bruijnZ : List Int := [0, 1, 56, 2, 57, 49, 28, 3, 61, 58, 42, 50, 38, 29, 17, 4, 62, 47, 59, 36, 45, 43, 51, 22, 53, 39, 33, 30, 24, 18, 12, 5, 63, 55, 48, 27, 60, 41, 37, 16, 46, 35, 44, 21, 52, 32, 23, 11, 54, 26, 40, 15, 34, 20, 31, 10, 25, 14, 19, 9, 13, 8, 7, 6]
theorem tz_of_tab {W : World} (t1 : Lib.TabIs Tryd.prog W "math/bits.deBruijn64tab" .u8 bruijnZ) : TZ W := by
  have hg : Tryd.prog.globalNamed "math/bits.deBruijn64tab" = some 22 := by kernel_rfl
  intro j hj
  have hall : ((List.range 64).all fun j => decide (bruijnZ[j]? = some ((Lib.deBruijn64tab.getD j 0 : Nat) : Int))) = true := by kernel_rfl
  have hj' : j < 64 := hj
  have h1 := List.all_eq_true.1 hall j (by simpa using hj')
  simp only [decide_eq_true_eq] at h1
  have hl : j < bruijnZ.length := hj'
  have h2 := t1.cell hg j hl
  rw [h2, List.getD_eq_getElem?_getD, h1]
  rfl
theorem tz_of_head {W : World} {r : List (String × DataW Unit)} (h : laidMet Tryd.prog (("math/bits.deBruijn64tab", Lib.tabData .u8 bruijnZ) :: r) W) : TZ W :=
  tz_of_tab (Lib.tabIs_of_head (g := 22) (t := 158) (e := 5) (n := 64) (by kernel_rfl) (by kernel_rfl) (by kernel_rfl) (by kernel_rfl) (by kernel_rfl) (by kernel_rfl) h)
theorem tz_of_laid0 {W : World} {L : List (String × DataW Unit)} (hH : L.filter (fun x => x.2.handleName?.isSome) = [])
    (hL : L = ("math/bits.deBruijn64tab", Lib.tabData .u8 bruijnZ) :: L.tail) (h : laidMetH Tryd.prog L W) : TZ W := by
  unfold laidMetH at h
  rw [hH, hL] at h
  exact tz_of_head h
/-- The table of trailing noughts, second on the list. -/
theorem tz_of_laid1 {W : World} {L : List (String × DataW Unit)} (hH : L.filter (fun x => x.2.handleName?.isSome) = []) {x : String × DataW Unit}
    (hL : L = x :: ("math/bits.deBruijn64tab", Lib.tabData .u8 bruijnZ) :: L.tail.tail) (h : laidMetH Tryd.prog L W) : TZ W := by
  unfold laidMetH at h
  rw [hH, hL] at h
  exact tz_of_head (laidMet.tail h)
end Go.Proofs.YtopnckfmdjhbjaaDoor
