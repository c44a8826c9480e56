/- The contract of strconv's formatBits at the bases 2 to 16 but 10. -/
import Derived.Test.YthmgcebonplcgaaGreatDoorKSm
import Derived.Test.YthmgcebonplcgaaGreatDoorScConv
import Derived.Test.YthmgcebonplcgaaGreatDoorShelf
import Derived.LoopTactic
import Derived.Deep.LoopGhost
namespace Go.Proofs.YthmgcebonplcgaaGreatDoor
open Go.RowKit

theorem zero65 (w : World) : (zeroValue 191).run Tryz.prog w = .ok (.agg (Array.replicate 65 (.int .u8 0))) w := by kernel_rfl

/-- Is a small number a power of two? -/
def powB (b : Int) : Bool := decide (b = 2 ∨ b = 4 ∨ b = 8 ∨ b = 16)
set_option maxHeartbeats 4000000 in
theorem isPow_any (b : Int) (w : World) (h0 : 2 ≤ b) (h1 : b ≤ 16) :
    Calls Tryz.prog 117 #[.int .i64 b] w fun e w' => e = .returned (.bool (powB b)) ∧ w = w' := by
  obtain rfl | rfl | rfl | rfl | rfl | rfl | rfl | rfl | rfl | rfl | rfl | rfl | rfl | rfl | rfl : b = 2 ∨ b = 3 ∨ b = 4 ∨ b = 5 ∨ b = 6 ∨ b = 7 ∨ b = 8 ∨ b = 9 ∨ b = 10 ∨ b = 11 ∨ b = 12 ∨ b = 13 ∨ b = 14 ∨ b = 15 ∨ b = 16 := by omega
  all_goals
    go_enter Tryz.func117, Tryz.ntmps117
    go_wp2
    go_ret
    exact ⟨rfl, rfl⟩

theorem dig_nat (r : Nat) (hr : r < 16) (h' : r < ((⟨#[48, 49, 50, 51, 52, 53, 54, 55, 56, 57, 97, 98, 99, 100, 101, 102, 103, 104, 105, 106, 107, 108, 109, 110, 111, 112, 113, 114, 115, 116, 117, 118, 119, 120, 121, 122]⟩ : ByteArray)).size) : ((((⟨#[48, 49, 50, 51, 52, 53, 54, 55, 56, 57, 97, 98, 99, 100, 101, 102, 103, 104, 105, 106, 107, 108, 109, 110, 111, 112, 113, 114, 115, 116, 117, 118, 119, 120, 121, 122]⟩ : ByteArray))[r]'h').toNat : Int) = dch r := by
  have : ∀ j : Fin 16, ((((⟨#[48, 49, 50, 51, 52, 53, 54, 55, 56, 57, 97, 98, 99, 100, 101, 102, 103, 104, 105, 106, 107, 108, 109, 110, 111, 112, 113, 114, 115, 116, 117, 118, 119, 120, 121, 122]⟩ : ByteArray))[j.1]'(Nat.lt_of_lt_of_le j.2 (by decide))).toNat : Int) = dch j.1 := by decide
  exact this ⟨r, hr⟩
/-- The array of 65 bytes in block A: from i on it holds the bytes of suf. -/
def Arr (w : World) (A i : Nat) (suf : List Int) : Prop := ∃ C t, w.heap[A]? = some (.cells C t) ∧ C.size = 65 ∧ i + suf.length = 65 ∧ ∀ q c, suf[q]? = some c → C[i + q]? = some (.int .u8 c)
theorem Arr.store {w : World} {A i : Nat} {suf : List Int} (h : Arr w A (i + 1) suf) (c : Int) : Arr (w.setCell ⟨A, i, none⟩ (.int .u8 c)) A i (c :: suf) := by
  obtain ⟨C, t, hb, hs, hl, hc⟩ := h
  refine ⟨C.set! i (.int .u8 c), t, ?_, by simp [hs], by simp; omega, fun q x hq => ?_⟩
  · show (w.heap.modify A _)[A]? = _
    rw [Array.getElem?_modify, if_pos rfl, hb]
    rfl
  · match q, hq with
    | 0, hq =>
      simp only [List.getElem?_cons_zero, Option.some.injEq] at hq
      subst hq
      simp only [Array.set!_eq_setIfInBounds, Nat.add_zero]
      rw [Array.getElem?_setIfInBounds_self_of_lt (by omega)]
    | q + 1, hq =>
      simp only [List.getElem?_cons_succ] at hq
      have := hc q x hq
      rw [show i + (q + 1) = i + 1 + q by omega]
      simp only [Array.set!_eq_setIfInBounds]
      rw [Array.getElem?_setIfInBounds_ne (by omega)]
      exact this
theorem Arr.cell {w : World} {A i : Nat} {suf : List Int} (h : Arr w A i suf) (k : Nat) (hk : k < 65) : (∃ v, w.cell? ⟨A, k, none⟩ = some v) ∧ w.frozen? ⟨A, k, none⟩ = false := by
  obtain ⟨C, t, hb, hs, _, _⟩ := h
  exact ⟨⟨C[k]'(by omega), by simp [World.cell?, hb, hs, hk]⟩, by simp [World.frozen?, hb]⟩

theorem Arr.sl {w : World} {A i : Nat} {suf : List Int} (h : Arr w A i suf) (hy : Byt suf) : Sl w (.slice (some ⟨A, i, none⟩) (65 - i) (65 - i)) suf := by
  obtain ⟨C, t, hb, hs, hl, hc⟩ := h
  have e : suf.length = 65 - i := by omega
  refine ⟨hy, by omega, Or.inr ⟨A, i, 65 - i, by rw [e], by omega, by omega, fun q hq => ?_⟩⟩
  have := hc q _ (List.getElem?_eq_getElem hq)
  rw [List.getD, List.getElem?_eq_getElem hq]
  simp only [Option.getD_some]
  simp [World.cell?, hb, this]

theorem arrLen65 : Tryz.prog.arrayLen 191 = 65 := by kernel_rfl
theorem slice65 (A k : Nat) (hk : k < 65) (W : World) : (Instr.sliceAt 191 (.pointer (some ⟨A, 0, none⟩)) (some (.int .i64 (k : Int))) none none).run Tryz.prog W = .ok (.slice (some ⟨A, k, none⟩) (65 - k) (65 - k)) W := by
  have hsz : (sizeOf (Tryz.prog.elem 191)).run Tryz.prog W = .ok 1 W := by kernel_rfl
  rw [run_sliceAt_array_l W 191 ⟨A, 0, none⟩ (by kernel_rfl) .i64 (k : Int) (by omega) (by rw [arrLen65]; omega), hsz, arrLen65]
  show Result.ok (slicedAt ⟨A, 0, none⟩ (k : Int).toNat 65 65 1) W = _
  unfold slicedAt
  rw [Int.toNat_natCast, if_neg (by omega), Nat.mul_one, WideShapes.add_plain, Nat.zero_add]

end Go.Proofs.YthmgcebonplcgaaGreatDoor
