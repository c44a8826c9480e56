/- The contract of strconv's formatBits at the bases 2 to 16 but 10. -/
import Derived.Test.YtnpjbpchnkobnaaDoorScBase
import Derived.Test.YtnpjbpchnkobnaaDoorScConv
import Derived.Test.YtnpjbpchnkobnaaDoorShelf
import Derived.LoopTactic
import Derived.Deep.LoopGhost
namespace Go.Proofs.YtnpjbpchnkobnaaDoor
open Go.RowKit

theorem zero65 (w : World) : (zeroValue 77).run Tryd.prog w = .ok (.agg (Array.replicate 65 (.int .u8 0))) w := by kernel_rfl

/-- Is a small number a power of two? -/
def powB (b : Int) : Bool := decide (b = 2 ∨ b = 4 ∨ b = 8 ∨ b = 16)
set_option maxHeartbeats 4000000 in
theorem isPow_any (b : Int) (w : World) (h0 : 2 ≤ b) (h1 : b ≤ 16) :
    Calls Tryd.prog 47 #[.int .i64 b] w fun e w' => e = .returned (.bool (powB b)) ∧ w = w' := by
  obtain rfl | rfl | rfl | rfl | rfl | rfl | rfl | rfl | rfl | rfl | rfl | rfl | rfl | rfl | rfl : b = 2 ∨ b = 3 ∨ b = 4 ∨ b = 5 ∨ b = 6 ∨ b = 7 ∨ b = 8 ∨ b = 9 ∨ b = 10 ∨ b = 11 ∨ b = 12 ∨ b = 13 ∨ b = 14 ∨ b = 15 ∨ b = 16 := by omega
  all_goals
    go_enter Tryd.func47, Tryd.ntmps47
    go_wp2
    go_ret
    exact ⟨rfl, rfl⟩

theorem dig_nat (r : Nat) (hr : r < 16) (h' : r < ((⟨#[48, 49, 50, 51, 52, 53, 54, 55, 56, 57, 97, 98, 99, 100, 101, 102, 103, 104, 105, 106, 107, 108, 109, 110, 111, 112, 113, 114, 115, 116, 117, 118, 119, 120, 121, 122]⟩ : ByteArray)).size) : ((((⟨#[48, 49, 50, 51, 52, 53, 54, 55, 56, 57, 97, 98, 99, 100, 101, 102, 103, 104, 105, 106, 107, 108, 109, 110, 111, 112, 113, 114, 115, 116, 117, 118, 119, 120, 121, 122]⟩ : ByteArray))[r]'h').toNat : Int) = dch r := by
  have : ∀ j : Fin 16, ((((⟨#[48, 49, 50, 51, 52, 53, 54, 55, 56, 57, 97, 98, 99, 100, 101, 102, 103, 104, 105, 106, 107, 108, 109, 110, 111, 112, 113, 114, 115, 116, 117, 118, 119, 120, 121, 122]⟩ : ByteArray))[j.1]'(Nat.lt_of_lt_of_le j.2 (by decide))).toNat : Int) = dch j.1 := by decide
  exact this ⟨r, hr⟩
theorem dig_at (z : Int) (r : Nat) (hz : z = r) (hr : r < 16) (h' : z.toNat < ((⟨#[48, 49, 50, 51, 52, 53, 54, 55, 56, 57, 97, 98, 99, 100, 101, 102, 103, 104, 105, 106, 107, 108, 109, 110, 111, 112, 113, 114, 115, 116, 117, 118, 119, 120, 121, 122]⟩ : ByteArray)).size) : ((((⟨#[48, 49, 50, 51, 52, 53, 54, 55, 56, 57, 97, 98, 99, 100, 101, 102, 103, 104, 105, 106, 107, 108, 109, 110, 111, 112, 113, 114, 115, 116, 117, 118, 119, 120, 121, 122]⟩ : ByteArray))[z.toNat]'h').toNat : Int) = dch r := by
  subst hz
  exact dig_nat r hr h'
/-- The array of 65 bytes in block A: from i on it holds the bytes of suf. -/
def Arr (w : World) (A i : Nat) (suf : List Int) : Prop := ∃ C t, w.heap[A]? = some (.cells C t) ∧ C.size = 65 ∧ i + suf.length = 65 ∧ ∀ q c, suf[q]? = some c → C[i + q]? = some (.int .u8 c)
theorem Arr.store {w : World} {A i : Nat} {suf : List Int} (h : Arr w A (i + 1) suf) (c : Int) : Arr (w.setCell ⟨A, i, none⟩ (.int .u8 c)) A i (c :: suf) := by
  obtain ⟨C, t, hb, hs, hl, hc⟩ := h
  refine ⟨C.set! i (.int .u8 c), t, ?_, by simp [hs], by simp; omega, fun q x hq => ?_⟩
  · show (w.heap.modify A _)[A]? = _
    rw [Array.getElem?_modify, if_pos rfl, hb]
    rfl
  · match q, hq with
    | 0, hq =>
      simp only [List.getElem?_cons_zero, Option.some.injEq] at hq
      subst hq
      simp only [Array.set!_eq_setIfInBounds, Nat.add_zero]
      rw [Array.getElem?_setIfInBounds_self_of_lt (by omega)]
    | q + 1, hq =>
      simp only [List.getElem?_cons_succ] at hq
      have := hc q x hq
      rw [show i + (q + 1) = i + 1 + q by omega]
      simp only [Array.set!_eq_setIfInBounds]
      rw [Array.getElem?_setIfInBounds_ne (by omega)]
      exact this
theorem Arr.cell {w : World} {A i : Nat} {suf : List Int} (h : Arr w A i suf) (k : Nat) (hk : k < 65) : (∃ v, w.cell? ⟨A, k, none⟩ = some v) ∧ w.frozen? ⟨A, k, none⟩ = false := by
  obtain ⟨C, t, hb, hs, _, _⟩ := h
  exact ⟨⟨C[k]'(by omega), by simp [World.cell?, hb, hs, hk]⟩, by simp [World.frozen?, hb]⟩

theorem Arr.sl {w : World} {A i : Nat} {suf : List Int} (h : Arr w A i suf) (hy : Byt suf) : Sl w (.slice (some ⟨A, i, none⟩) (65 - i) (65 - i)) suf := by
  obtain ⟨C, t, hb, hs, hl, hc⟩ := h
  have e : suf.length = 65 - i := by omega
  refine ⟨hy, by omega, Or.inr ⟨A, i, 65 - i, by rw [e], by omega, by omega, fun q hq => ?_⟩⟩
  have := hc q _ (List.getElem?_eq_getElem hq)
  rw [List.getD, List.getElem?_eq_getElem hq]
  simp only [Option.getD_some]
  simp [World.cell?, hb, this]

theorem arrLen65 : Tryd.prog.arrayLen 77 = 65 := by kernel_rfl
theorem slice65 (A k : Nat) (hk : k < 65) (W : World) : (Instr.sliceAt 77 (.pointer (some ⟨A, 0, none⟩)) (some (.int .i64 (k : Int))) none none).run Tryd.prog W = .ok (.slice (some ⟨A, k, none⟩) (65 - k) (65 - k)) W := by
  have hsz : (sizeOf (Tryd.prog.elem 77)).run Tryd.prog W = .ok 1 W := by kernel_rfl
  rw [run_sliceAt_array_l W 77 ⟨A, 0, none⟩ (by kernel_rfl) .i64 (k : Int) (by omega) (by rw [arrLen65]; omega), hsz, arrLen65]
  show Result.ok (slicedAt ⟨A, 0, none⟩ (k : Int).toNat 65 65 1) W = _
  unfold slicedAt
  rw [Int.toNat_natCast, if_neg (by omega), Nat.mul_one, WideShapes.add_plain, Nat.zero_add]

set_option maxRecDepth 100000 in
set_option maxHeartbeats 8000000 in
theorem formatBits_odd (n b : Nat) (w : World) (hb : 2 ≤ b) (hb2 : b ≤ 16) (hb10 : b ≠ 10) (hp : powB b = false) (hn : n < 18446744073709551616) :
    Calls Tryd.prog 35 #[.slice none 0 0, .int .u64 n, .int .i64 b, .bool false, .bool false] w fun e w' => ∃ t, e = .returned (.tuple #[.slice none 0 0, .string t]) ∧ bys t = digs b n ∧ Below w.heap.size w w' := by
  obtain ⟨Z, hz, hZ⟩ : ∃ Z, (∀ w, (zeroValue 77).run Tryd.prog w = .ok (.agg Z) w) ∧ Z = Array.replicate 65 (.int .u8 0) := ⟨_, zero65, rfl⟩
  have HP := Lib.hid (fun w => isPow_any b w (by omega) (by omega))
  rw [hp] at HP
  clear hp
  have hb0 : (2 : Int) ≤ b := by omega
  have hb1 : (b : Int) ≤ 16 := by omega
  have hb10' : ((b : Int) == 10) = false := by simp; omega
  have HZ := Lib.hid hZ
  clear hZ
  go_enter Tryd.func35, Tryd.ntmps35
  go_wp2_with (go_at_call 47; refine (HP.out _).mono ?_; rintro e w' ⟨rfl, rfl⟩)
  have HA0 : Hid (Arr (w.alloc (.cells Z 77)) w.heap.size 65 []) := ⟨Z, 77, by show (w.heap.push _)[w.heap.size]? = _; simp, by rw [HZ.out]; simp, rfl, fun q c h => by simp at h⟩
  go_loopw [1, 13] (fun u i wr => ∃ (m k : Nat) (suf : List Int), u = .int .u64 m ∧ i = .int .i64 k ∧ m ≤ n ∧ digs b n = digs b m ++ suf ∧ Arr wr w.heap.size k suf ∧ Below w.heap.size w wr) (fun u _ _ => (intOf u).toNat)
  case atStart => exact ⟨n, 65, [], rfl, rfl, Nat.le_refl _, by simp, HA0.out, (Below.refl _ _).alloc (Nat.le_refl _) _⟩
  case round =>
    obtain ⟨m, k, suf, rfl, rfl, hmn, hdg, harr, hbel⟩ := hrel
    have HD := Lib.hid hdg
    have HA := Lib.hid harr
    have HB := Lib.hid hbel
    have hL := digs_len b hb 64 n (by omega) (Nat.lt_of_lt_of_le hn (Nat.le_trans (by decide) (Nat.pow_le_pow_left hb 64)))
    rw [hdg, List.length_append] at hL
    have hk65 := harr.choose_spec.choose_spec.2.2.1
    clear hdg harr hbel
    by_cases hge : b ≤ m
    · have h2 : 2 ≤ (digs b m).length := by
        rw [digs_step b m hb hge, List.length_append]
        have := digs_pos b (m / b)
        simp
        omega
      have hk : 2 ≤ k := by omega
      obtain ⟨k', rfl⟩ : ∃ k', k = k' + 1 := ⟨k - 1, by omega⟩
      obtain ⟨⟨cv, hcell⟩, hfz⟩ := HA.out.cell k' (by omega)
      have hq0 : 0 ≤ (m : Int) / b := Int.ediv_nonneg (by omega) (by omega)
      have hq1 : (m : Int) / b ≤ m := Int.ediv_le_self _ (by omega)
      have hqb0 : 0 ≤ (m : Int) / b * b := Int.mul_nonneg hq0 (by omega)
      have hmod := Int.mul_ediv_add_emod (m : Int) b
      have hmod0 := Int.emod_nonneg (m : Int) (show (b : Int) ≠ 0 by omega)
      have hmod1 := Int.emod_lt_of_pos (m : Int) (show (0 : Int) < b by omega)
      rw [Int.mul_comm] at hmod
      have hr0 : 0 ≤ (m : Int) - (m : Int) / b * b := by omega
      have hr1 : (m : Int) - (m : Int) / b * b < 16 := by omega
      have HR : Hid ((m : Int) - (m : Int) / b * b = (m % b : Nat)) := Lib.hid (by rw [Int.natCast_emod]; omega)
      clear hmod hmod0 hmod1
      have hnI : (m : Int) ≤ 18446744073709551615 := by omega
      have HLT : Hid (m / b < m) := Nat.div_lt_self (by omega) (by omega)
      go_wp2
      go_roundw
      case rel =>
        refine ⟨m / b, k', dch (m % b) :: suf, by rw [Int.natCast_ediv], rfl, by have := HLT.out; omega, ?_, ?_, HB.out.setCell (Nat.le_refl _) _⟩
        · rw [HD.out, digs_step b m hb hge]; simp
        · rw [dig_at _ _ HR.out (by have := Nat.mod_lt m (show 0 < b by omega); omega)]; exact HA.out.store _
      case measure =>
        have := HLT.out
        simp only [intOf]
        rw [← Int.natCast_ediv]
        omega
    · have hlt : m < b := by omega
      have h1 := digs_pos b m
      obtain ⟨k', rfl⟩ : ∃ k', k = k' + 1 := ⟨k - 1, by omega⟩
      obtain ⟨⟨cv, hcell⟩, hfz⟩ := HA.out.cell k' (by omega)
      have hm16 : m < 16 := by omega
      have hix := fun h' => dig_nat m hm16 h'
      have hsl : Sl (wr.setCell ⟨w.heap.size, k', none⟩ (.int .u8 (dch m))) (.slice (some ⟨w.heap.size, k', none⟩) (65 - k') (65 - k')) (digs b n) := by
        rw [HD.out, digs_small b m hlt]
        refine (HA.out.store (dch m)).sl ?_
        have := byt_digs b hb hb2 n
        rw [HD.out, digs_small b m hlt] at this
        exact this
      have hconv := conv_string hsl
      have HBB : Hid (Below w.heap.size w (wr.setCell ⟨w.heap.size, k', none⟩ (.int .u8 (dch m)))) := HB.out.setCell (Nat.le_refl _) _
      clear hsl
      have hsla := slice65 w.heap.size k' (by omega)
      have HO : Hid (bys (ofBys (digs b n)) = digs b n) := bys_ofBys (byt_digs b hb hb2 n)
      go_wp2
      go_ret2
      exact ⟨_, rfl, HO.out, HBB.out⟩
end Go.Proofs.YtnpjbpchnkobnaaDoor
