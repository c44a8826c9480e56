/- The contracts of least and hex. -/
import Derived.Test.YtopnckfmdjhbjaaGreatDoorScMath
import Derived.Test.YtopnckfmdjhbjaaGreatDoorScConv
import Derived.Test.YtopnckfmdjhbjaaGreatDoorShelf
import Derived.LoopTactic
import Derived.Deep.LoopGhost
import Derived.Lib.LaidTab
import Derived.Laws.BitsAllLaws
import Derived.Test.YtopnckfmdjhbjaaGreatDoorScDigits
import Derived.Lib.SlBytesConst
import Derived.Deep.RegionWith
import Derived.Deep.RegionHeld3
import Derived.Below
import Derived.Test.YtopnckfmdjhbjaaGreatDoorScOpen
import Derived.ChangeMaps5
import Derived.Test.YtopnckfmdjhbjaaGreatDoorSeCtz
import Derived.Test.YtopnckfmdjhbjaaGreatDoorSeMor
import Derived.Lib.Join
import Derived.Test.YtopnckfmdjhbjaaGreatDoorKSet
import Derived.Test.YtopnckfmdjhbjaaGreatDoorSeByt
/- Plain facts on the digits of a number to a base. No program. -/
namespace Go.Proofs.YtopnckfmdjhbjaaGreatDoor

/-- The byte of a digit, in small letters. -/
def dch (d : Nat) : Int := if d < 10 then 48 + d else 87 + d
theorem dch_bd (d : Nat) (h : d < 16) : 48 ≤ dch d ∧ dch d ≤ 102 := by unfold dch; split <;> omega
theorem dgt_dch (d : Nat) (h : d < 16) : dgt (dch d) = d := by
  unfold dch dgt
  split
  · rw [if_pos (by omega)]; omega
  · rw [if_neg (by omega), if_pos (by omega)]; omega

/-- The digits of n to the base b, the greatest first. -/
def digs (b n : Nat) : List Int := if _h : b < 2 ∨ n < b then [dch n] else digs b (n / b) ++ [dch (n % b)]
termination_by n
decreasing_by exact Nat.div_lt_self (by omega) (by omega)
theorem digs_small (b n : Nat) (h : n < b) : digs b n = [dch n] := by rw [digs, dif_pos (Or.inr h)]
theorem digs_step (b n : Nat) (hb : 2 ≤ b) (h : b ≤ n) : digs b n = digs b (n / b) ++ [dch (n % b)] := by rw [digs, dif_neg (by omega)]

theorem digs_len (b : Nat) (hb : 2 ≤ b) : ∀ (k n : Nat), 1 ≤ k → n < b ^ k → (digs b n).length ≤ k
  | 0, _, h, _ => absurd h (by omega)
  | k + 1, n, _, h => by
    by_cases hn : n < b
    · rw [digs_small _ _ hn]; simp
    · rw [digs_step _ _ hb (by omega), List.length_append]
      have hk : 1 ≤ k := by
        rcases Nat.eq_zero_or_pos k with h0 | h0
        · subst h0; simp at h; omega
        · exact h0
      have := digs_len b hb k (n / b) hk (by rw [Nat.div_lt_iff_lt_mul (by omega)]; rw [Nat.pow_succ] at h; exact h)
      simp
      exact this
theorem digs_pos (b n : Nat) : 1 ≤ (digs b n).length := by
  rw [digs]
  split <;> simp

theorem val_append (b : Int) (l : List Int) (c : Int) : val b (l ++ [c]) = val b l * b + dgt c := by unfold val; rw [List.foldl_append]; rfl

/-- What the digits write is the number; each is a digit of the base. -/
theorem digs_val (b : Nat) (hb : 2 ≤ b) (hb2 : b ≤ 16) (n : Nat) : val b (digs b n) = n ∧ ∀ c ∈ digs b n, dgt c < b ∧ 48 ≤ c ∧ c ≤ 102 := by
  induction n using Nat.strongRecOn with
  | _ n ih =>
    by_cases hn : n < b
    · rw [digs_small _ _ hn]
      have := dgt_dch n (by omega)
      have h2 := dch_bd n (by omega)
      refine ⟨by unfold val; simp [this], fun c hc => ?_⟩
      simp only [List.mem_singleton] at hc
      subst hc
      omega
    · rw [digs_step _ _ hb (by omega)]
      obtain ⟨h1, h2⟩ := ih (n / b) (Nat.div_lt_self (by omega) (by omega))
      have hm : n % b < b := Nat.mod_lt _ (by omega)
      have h3 := dgt_dch (n % b) (by omega)
      have h4 := dch_bd (n % b) (by omega)
      refine ⟨?_, fun c hc => ?_⟩
      · rw [val_append, h1, h3]
        have := Nat.div_add_mod n b
        rw [Nat.mul_comm] at this
        exact_mod_cast this
      · rcases List.mem_append.1 hc with h | h
        · exact h2 c h
        · simp only [List.mem_singleton] at h
          subst h
          omega

theorem byt_digs (b : Nat) (hb : 2 ≤ b) (hb2 : b ≤ 16) (n : Nat) : Byt (digs b n) := fun i => by
  by_cases hi : i < (digs b n).length
  · have := ((digs_val b hb hb2 n).2 _ (List.getElem_mem hi)).2
    rw [List.getD, List.getElem?_eq_getElem hi]
    simp only [Option.getD_some]
    omega
  · rw [List.getD, List.getElem?_eq_none (by omega)]; simp
end Go.Proofs.YtopnckfmdjhbjaaGreatDoor
/- The contract of strconv's formatBits at the bases 2 to 16 but 10. -/
namespace Go.Proofs.YtopnckfmdjhbjaaGreatDoor
open Go.RowKit

theorem zero65 (w : World) : (zeroValue 179).run Tryz.prog w = .ok (.agg (Array.replicate 65 (.int .u8 0))) w := by kernel_rfl

/-- Is a small number a power of two? -/
def powB (b : Int) : Bool := decide (b = 2 ∨ b = 4 ∨ b = 8 ∨ b = 16)
set_option maxHeartbeats 4000000 in
theorem isPow_any (b : Int) (w : World) (h0 : 2 ≤ b) (h1 : b ≤ 16) :
    Calls Tryz.prog 116 #[.int .i64 b] w fun e w' => e = .returned (.bool (powB b)) ∧ w = w' := by
  obtain rfl | rfl | rfl | rfl | rfl | rfl | rfl | rfl | rfl | rfl | rfl | rfl | rfl | rfl | rfl : b = 2 ∨ b = 3 ∨ b = 4 ∨ b = 5 ∨ b = 6 ∨ b = 7 ∨ b = 8 ∨ b = 9 ∨ b = 10 ∨ b = 11 ∨ b = 12 ∨ b = 13 ∨ b = 14 ∨ b = 15 ∨ b = 16 := by omega
  all_goals
    go_enter Tryz.func116, Tryz.ntmps116
    go_wp2
    go_ret
    exact ⟨rfl, rfl⟩

theorem dig_nat (r : Nat) (hr : r < 16) (h' : r < ((⟨#[48, 49, 50, 51, 52, 53, 54, 55, 56, 57, 97, 98, 99, 100, 101, 102, 103, 104, 105, 106, 107, 108, 109, 110, 111, 112, 113, 114, 115, 116, 117, 118, 119, 120, 121, 122]⟩ : ByteArray)).size) : ((((⟨#[48, 49, 50, 51, 52, 53, 54, 55, 56, 57, 97, 98, 99, 100, 101, 102, 103, 104, 105, 106, 107, 108, 109, 110, 111, 112, 113, 114, 115, 116, 117, 118, 119, 120, 121, 122]⟩ : ByteArray))[r]'h').toNat : Int) = dch r := by
  have : ∀ j : Fin 16, ((((⟨#[48, 49, 50, 51, 52, 53, 54, 55, 56, 57, 97, 98, 99, 100, 101, 102, 103, 104, 105, 106, 107, 108, 109, 110, 111, 112, 113, 114, 115, 116, 117, 118, 119, 120, 121, 122]⟩ : ByteArray))[j.1]'(Nat.lt_of_lt_of_le j.2 (by decide))).toNat : Int) = dch j.1 := by decide
  exact this ⟨r, hr⟩
/-- The array of 65 bytes in block A: from i on it holds the bytes of suf. -/
def Arr (w : World) (A i : Nat) (suf : List Int) : Prop := ∃ C t, w.heap[A]? = some (.cells C t) ∧ C.size = 65 ∧ i + suf.length = 65 ∧ ∀ q c, suf[q]? = some c → C[i + q]? = some (.int .u8 c)
theorem Arr.store {w : World} {A i : Nat} {suf : List Int} (h : Arr w A (i + 1) suf) (c : Int) : Arr (w.setCell ⟨A, i, none⟩ (.int .u8 c)) A i (c :: suf) := by
  obtain ⟨C, t, hb, hs, hl, hc⟩ := h
  refine ⟨C.set! i (.int .u8 c), t, ?_, by simp [hs], by simp; omega, fun q x hq => ?_⟩
  · show (w.heap.modify A _)[A]? = _
    rw [Array.getElem?_modify, if_pos rfl, hb]
    rfl
  · match q, hq with
    | 0, hq =>
      simp only [List.getElem?_cons_zero, Option.some.injEq] at hq
      subst hq
      simp only [Array.set!_eq_setIfInBounds, Nat.add_zero]
      rw [Array.getElem?_setIfInBounds_self_of_lt (by omega)]
    | q + 1, hq =>
      simp only [List.getElem?_cons_succ] at hq
      have := hc q x hq
      rw [show i + (q + 1) = i + 1 + q by omega]
      simp only [Array.set!_eq_setIfInBounds]
      rw [Array.getElem?_setIfInBounds_ne (by omega)]
      exact this
theorem Arr.cell {w : World} {A i : Nat} {suf : List Int} (h : Arr w A i suf) (k : Nat) (hk : k < 65) : (∃ v, w.cell? ⟨A, k, none⟩ = some v) ∧ w.frozen? ⟨A, k, none⟩ = false := by
  obtain ⟨C, t, hb, hs, _, _⟩ := h
  exact ⟨⟨C[k]'(by omega), by simp [World.cell?, hb, hs, hk]⟩, by simp [World.frozen?, hb]⟩

theorem Arr.sl {w : World} {A i : Nat} {suf : List Int} (h : Arr w A i suf) (hy : Byt suf) : Sl w (.slice (some ⟨A, i, none⟩) (65 - i) (65 - i)) suf := by
  obtain ⟨C, t, hb, hs, hl, hc⟩ := h
  have e : suf.length = 65 - i := by omega
  refine ⟨hy, by omega, Or.inr ⟨A, i, 65 - i, by rw [e], by omega, by omega, fun q hq => ?_⟩⟩
  have := hc q _ (List.getElem?_eq_getElem hq)
  rw [List.getD, List.getElem?_eq_getElem hq]
  simp only [Option.getD_some]
  simp [World.cell?, hb, this]

theorem arrLen65 : Tryz.prog.arrayLen 179 = 65 := by kernel_rfl
theorem slice65 (A k : Nat) (hk : k < 65) (W : World) : (Instr.sliceAt 179 (.pointer (some ⟨A, 0, none⟩)) (some (.int .i64 (k : Int))) none none).run Tryz.prog W = .ok (.slice (some ⟨A, k, none⟩) (65 - k) (65 - k)) W := by
  have hsz : (sizeOf (Tryz.prog.elem 179)).run Tryz.prog W = .ok 1 W := by kernel_rfl
  rw [run_sliceAt_array_l W 179 ⟨A, 0, none⟩ (by kernel_rfl) .i64 (k : Int) (by omega) (by rw [arrLen65]; omega), hsz, arrLen65]
  show Result.ok (slicedAt ⟨A, 0, none⟩ (k : Int).toNat 65 65 1) W = _
  unfold slicedAt
  rw [Int.toNat_natCast, if_neg (by omega), Nat.mul_one, WideShapes.add_plain, Nat.zero_add]

end Go.Proofs.YtopnckfmdjhbjaaGreatDoor
/- The contract of strconv's formatBits at the bases 2, 4, 8, 16. -/
namespace Go.Proofs.YtopnckfmdjhbjaaGreatDoor
open Go.RowKit

/-- What the table of trailing noughts holds at the powers of two. -/
def DB (w : World) : Prop := w.cell? ⟨22, 1, none⟩ = some (.int .u8 1) ∧ w.cell? ⟨22, 3, none⟩ = some (.int .u8 2) ∧ w.cell? ⟨22, 7, none⟩ = some (.int .u8 3) ∧ w.cell? ⟨22, 15, none⟩ = some (.int .u8 4)

theorem DB.below {w w' : World} (h : DB w) (hb : Below w.heap.size w w') : DB w' := by
  have hlt : 22 < w.heap.size := by
    have := World.block_lt_of_cell? _ _ h.1
    simpa using this
  obtain ⟨h1, h2, h3, h4⟩ := h
  exact ⟨by rw [hb.cell hlt]; exact h1, by rw [hb.cell hlt]; exact h2, by rw [hb.cell hlt]; exact h3, by rw [hb.cell hlt]; exact h4⟩

set_option maxHeartbeats 4000000 in
theorem trail_16 (w : World) (h : DB w) :
    Calls Tryz.prog 117 #[.int .u64 16] w fun e w' => e = .returned (.int .i64 4) ∧ w = w' := by
  obtain ⟨d1, d2, d3, d4⟩ := h
  have e1 : bits BinOp.and IntKind.u64 16 (IntKind.u64.wrap (-16)) = 16 := by kernel_rfl
  have e2 : IntKind.u64.wrap (16 * 285870213051353865) = 4573923408821661840 := by kernel_rfl
  go_enter Tryz.func117, Tryz.ntmps117
  go_wp2
  go_ret
  exact ⟨rfl, rfl⟩

set_option maxRecDepth 100000 in
set_option maxHeartbeats 8000000 in
theorem formatBits_16 (n : Nat) (w : World) (hdb : DB w) (hn : n < 18446744073709551616) :
    Calls Tryz.prog 107 #[.slice none 0 0, .int .u64 n, .int .i64 16, .bool false, .bool false] w fun e w' => ∃ t, e = .returned (.tuple #[.slice none 0 0, .string t]) ∧ bys t = digs 16 n ∧ Below w.heap.size w w' := by
  obtain ⟨Z, hz, hZ⟩ : ∃ Z, (∀ w, (zeroValue 179).run Tryz.prog w = .ok (.agg Z) w) ∧ Z = Array.replicate 65 (.int .u8 0) := ⟨_, zero65, rfl⟩
  have HP : Hid (∀ w, Calls Tryz.prog 116 #[.int .i64 16] w fun e w' => e = .returned (.bool true) ∧ w = w') := fun w => isPow_any 16 w (by decide) (by decide)
  have HTR : Hid (∀ w', Below w.heap.size w w' → Calls Tryz.prog 117 #[.int .u64 16] w' fun e w'' => e = .returned (.int .i64 4) ∧ w' = w'') := fun w' h => trail_16 w' (hdb.below h)
  have HB0 : Hid (Below w.heap.size w (w.alloc (.cells Z 179))) := (Below.refl _ _).alloc (Nat.le_refl _) _
  clear hdb
  have HZ := Lib.hid hZ
  clear hZ
  go_enter Tryz.func107, Tryz.ntmps107
  go_wp2_with (first | (go_at_call 116; refine (HP.out _).mono ?_; rintro e w' ⟨rfl, rfl⟩) | (go_at_call 117; refine (HTR.out _ HB0.out).mono ?_; rintro e w' ⟨rfl, rfl⟩))
  have HA0 : Hid (Arr (w.alloc (.cells Z 179)) w.heap.size 65 []) := ⟨Z, 179, by show (w.heap.push _)[w.heap.size]? = _; simp, by rw [HZ.out]; simp, rfl, fun q c h => by simp at h⟩
  go_loopw [1, 13] (fun u i wr => ∃ (m k : Nat) (suf : List Int), u = .int .u64 m ∧ i = .int .i64 k ∧ m ≤ n ∧ digs 16 n = digs 16 m ++ suf ∧ Arr wr w.heap.size k suf ∧ Below w.heap.size w wr) (fun u _ _ => (intOf u).toNat)
  case atStart => exact ⟨n, 65, [], rfl, rfl, Nat.le_refl _, by simp, HA0.out, (Below.refl _ _).alloc (Nat.le_refl _) _⟩
  case round =>
    obtain ⟨m, k, suf, rfl, rfl, hmn, hdg, harr, hbel⟩ := hrel
    have HD := Lib.hid hdg
    have HA := Lib.hid harr
    have HB := Lib.hid hbel
    have hL := digs_len 16 (by decide) 64 n (by omega) (Nat.lt_of_lt_of_le hn (Nat.le_trans (by decide) (Nat.pow_le_pow_left (show 2 ≤ 16 by decide) 64)))
    rw [hdg, List.length_append] at hL
    have hk65 := harr.choose_spec.choose_spec.2.2.1
    clear hdg harr hbel
    by_cases hge : 16 ≤ m
    · have h2 : 2 ≤ (digs 16 m).length := by
        rw [digs_step 16 m (by decide) hge, List.length_append]
        have := digs_pos 16 (m / 16)
        simp
        omega
      have hk : 2 ≤ k := by omega
      obtain ⟨k', rfl⟩ : ∃ k', k = k' + 1 := ⟨k - 1, by omega⟩
      obtain ⟨⟨cv, hcell⟩, hfz⟩ := HA.out.cell k' (by omega)
      have hnI : (m : Int) ≤ 18446744073709551615 := by omega
      have ha : bits BinOp.and IntKind.u64 (m : Int) 15 = (m : Int) % 16 := by
        have h1 := u64_and_nat m 15 (by omega) (by decide)
        rw [show ((15 : Nat) : Int) = 15 from rfl] at h1
        rw [h1, show m &&& 15 = m % 16 from Nat.and_two_pow_sub_one_eq_mod m 4]
        omega
      have hr0 : 0 ≤ (m : Int) % 16 := by omega
      have hr1 : (m : Int) % 16 < 16 := by omega
      have HR : Hid ((m : Int) % 16 = (m % 16 : Nat)) := Lib.hid (by omega)
      have HLT : Hid (m / 16 < m) := Nat.div_lt_self (by omega) (by decide)
      go_wp2
      go_roundw
      case rel =>
        refine ⟨m / 16, k', dch (m % 16) :: suf, by rw [Int.natCast_ediv]; rfl, rfl, by have := HLT.out; omega, ?_, ?_, HB.out.setCell (Nat.le_refl _) _⟩
        · rw [HD.out, digs_step 16 m (by decide) hge]; simp
        · rw [dig_nat (m % 16) (by omega)]; exact HA.out.store _
      case measure =>
        have := HLT.out
        simp only [intOf]
        omega
    · have hlt : m < 16 := by omega
      have h1 := digs_pos 16 m
      obtain ⟨k', rfl⟩ : ∃ k', k = k' + 1 := ⟨k - 1, by omega⟩
      obtain ⟨⟨cv, hcell⟩, hfz⟩ := HA.out.cell k' (by omega)
      have hm16 : m < 16 := by omega
      have hix := fun h' => dig_nat m hm16 h'
      have hsl : Sl (wr.setCell ⟨w.heap.size, k', none⟩ (.int .u8 (dch m))) (.slice (some ⟨w.heap.size, k', none⟩) (65 - k') (65 - k')) (digs 16 n) := by
        rw [HD.out, digs_small 16 m hlt]
        refine (HA.out.store (dch m)).sl ?_
        have := byt_digs 16 (by decide) (by decide) n
        rw [HD.out, digs_small 16 m hlt] at this
        exact this
      have hconv := conv_string hsl
      have HBB : Hid (Below w.heap.size w (wr.setCell ⟨w.heap.size, k', none⟩ (.int .u8 (dch m)))) := HB.out.setCell (Nat.le_refl _) _
      clear hsl
      have hsla := slice65 w.heap.size k' (by omega)
      have HO : Hid (bys (ofBys (digs 16 n)) = digs 16 n) := bys_ofBys (byt_digs 16 (by decide) (by decide) n)
      go_wp2
      go_ret2
      exact ⟨_, rfl, HO.out, HBB.out⟩

end Go.Proofs.YtopnckfmdjhbjaaGreatDoor
/- The contracts of strconv.FormatUint and scan.Base at the base 16. -/
namespace Go.Proofs.YtopnckfmdjhbjaaGreatDoor
open Go.RowKit

set_option maxRecDepth 100000 in
set_option maxHeartbeats 4000000 in
theorem uint16_in (n : Nat) (w : World) (hn : n < 18446744073709551616) (h : DB w) :
    Calls Tryz.prog 98 #[.int .u64 n, .int .i64 16] w fun e w' => ∃ t, e = .returned (.string t) ∧ bys t = digs 16 n ∧ Below w.heap.size w w' := by
  have HS := Lib.hid (formatBits_16 n w h hn)
  clear h
  go_enter Tryz.func98, Tryz.ntmps98
  go_wp2_with fail
  refine HS.out.mono ?_
  rintro e w' ⟨t, rfl, ht, hbel⟩
  have HT := Lib.hid ht
  have HB := Lib.hid hbel
  clear ht hbel
  go_wp2
  go_ret
  exact ⟨_, rfl, HT.out, HB.out⟩
set_option maxRecDepth 100000 in
set_option maxHeartbeats 4000000 in
theorem uint16_any (n : Nat) (w : World) (hn : n < 18446744073709551616) (h : DB w) :
    Calls Tryz.prog 91 #[.int .u64 n, .int .i64 16] w fun e w' => ∃ t, e = .returned (.string t) ∧ bys t = digs 16 n ∧ Below w.heap.size w w' := by
  have HS := Lib.hid (uint16_in n w hn h)
  clear h
  go_enter Tryz.func91, Tryz.ntmps91
  go_wp2_with fail
  refine HS.out.mono ?_
  rintro e w' ⟨t, rfl, ht, hbel⟩
  have HT := Lib.hid ht
  have HB := Lib.hid hbel
  clear ht hbel
  go_wp2
  go_ret
  exact ⟨_, rfl, HT.out, HB.out⟩

set_option maxRecDepth 100000 in
set_option maxHeartbeats 4000000 in
theorem base16 (n : Nat) (w : World) (hn : n < 18446744073709551616) (h : DB w) :
    Calls Tryz.prog 82 #[.int .u64 n, .int .i64 16, .bool false] w fun e w' => ∃ t, e = .returned (.string t) ∧ bys t = digs 16 n ∧ Below w.heap.size w w' := by
  have HS := Lib.hid (uint16_any n w hn h)
  have HI : Hid (∀ w, Calls Tryz.prog 90 #[.int .i64 16] w fun e w' => e = .returned (.bool true) ∧ w = w') := fun w => isBase_any 16 w
  clear h
  go_enter Tryz.func82, Tryz.ntmps82
  go_wp2_with fail
  refine (HI.out _).mono ?_
  rintro e w' ⟨rfl, rfl⟩
  go_wp2_with fail
  refine HS.out.mono ?_
  rintro e w' ⟨t, rfl, ht, hbel⟩
  have HT := Lib.hid ht
  have HB := Lib.hid hbel
  clear ht hbel
  go_wp2
  go_ret
  exact ⟨_, rfl, HT.out, HB.out⟩
end Go.Proofs.YtopnckfmdjhbjaaGreatDoor
/- The runs of a set, as a text (pure). -/
namespace Go.Proofs.YtopnckfmdjhbjaaGreatDoor
open Go.RowKit

/-- The first byte from k on that is in p; 256, if there is none. -/
def fstN (p : Nat → Bool) : Nat → Nat → Nat
  | 0, k => k
  | n + 1, k => if p k then k else fstN p n (k + 1)
def fst (p : Nat → Bool) (k : Nat) : Nat := fstN p (256 - k) k
theorem fstN_facts (p : Nat → Bool) : ∀ n k, k ≤ fstN p n k ∧ fstN p n k ≤ k + n ∧ (fstN p n k < k + n → p (fstN p n k) = true) ∧ ∀ j, k ≤ j → j < fstN p n k → p j = false
  | 0, k => ⟨Nat.le_refl _, Nat.le_refl _, fun h => absurd h (Nat.lt_irrefl _), fun j h1 h2 => absurd h2 (Nat.not_lt.2 h1)⟩
  | n + 1, k => by
    unfold fstN
    by_cases hp : p k = true
    · rw [if_pos hp]
      exact ⟨Nat.le_refl _, by omega, fun _ => hp, fun j h1 h2 => by omega⟩
    · rw [if_neg hp]
      obtain ⟨h1, h2, h3, h4⟩ := fstN_facts p n (k + 1)
      refine ⟨by omega, by omega, fun h => h3 (by omega), fun j hj hj2 => ?_⟩
      by_cases hjk : j = k
      · subst hjk; simpa using hp
      · exact h4 j (by omega) hj2
theorem fst_ge (p : Nat → Bool) (k : Nat) : k ≤ fst p k := (fstN_facts p _ k).1
theorem fst_le (p : Nat → Bool) (k : Nat) (hk : k ≤ 256) : fst p k ≤ 256 := by have := (fstN_facts p (256 - k) k).2.1; unfold fst; omega
theorem fst_hit (p : Nat → Bool) (k : Nat) (hk : k ≤ 256) (h : fst p k < 256) : p (fst p k) = true := (fstN_facts p (256 - k) k).2.2.1 (by unfold fst at h; omega)
theorem fst_miss (p : Nat → Bool) (k j : Nat) (h1 : k ≤ j) (h2 : j < fst p k) : p j = false := (fstN_facts p (256 - k) k).2.2.2 j h1 h2
/-- It is the only such place. -/
theorem fst_uniq (p : Nat → Bool) (k m : Nat) (h1 : k ≤ m) (h2 : m ≤ 256) (h3 : ∀ j, k ≤ j → j < m → p j = false) (h4 : m < 256 → p m = true) : fst p k = m := by
  have hle := fst_le p k (by omega)
  have hge := fst_ge p k
  rcases Nat.lt_trichotomy (fst p k) m with h | h | h
  · have := fst_hit p k (by omega) (by omega)
    rw [h3 _ hge h] at this
    cases this
  · exact h
  · have := fst_miss p k m h1 h
    rw [h4 (by omega)] at this
    cases this

/-- A byte as two digits. -/
def hxd (d : Nat) : UInt8 := UInt8.ofNat (dch d).toNat
def hex2 (b : Nat) : List UInt8 := [hxd (b / 16), hxd (b % 16)]
/-- A run from low up to (but not with) e. -/
def runT (lo e : Nat) : List UInt8 := hex2 lo ++ (if lo + 1 < e then 45 :: hex2 (e - 1) else [])
/-- The runs from k on. -/
def runsN (p : Nat → Bool) : Nat → Nat → List (List UInt8)
  | 0, _ => []
  | n + 1, k => if fst p k < 256 then runT (fst p k) (fst (notP p) (fst p k)) :: runsN p n (fst (notP p) (fst p k)) else []
def runs (p : Nat → Bool) : List (List UInt8) := runsN p 257 0
def textL (p : Nat → Bool) : List UInt8 := 91 :: (Lib.join (runs p) [44] ++ [93])
def textS (p : Nat → Bool) : ByteArray := ⟨(textL p).toArray⟩

theorem end_gt (p : Nat → Bool) (lo : Nat) (h : lo < 256) (hp : p lo = true) : lo < fst (notP p) lo := by
  have h1 := fst_ge (notP p) lo
  rcases Nat.lt_or_ge lo (fst (notP p) lo) with h2 | h2
  · exact h2
  · have e : fst (notP p) lo = lo := by omega
    have := fst_hit (notP p) lo (by omega) (by omega)
    rw [e] at this
    simp [notP, hp] at this
/-- With fuel enough it makes no difference how much. -/
theorem runsN_fuel (p : Nat → Bool) : ∀ n m k, k ≤ 256 → 256 - k < n → 256 - k < m → runsN p n k = runsN p m k
  | 0, _, _, _, h, _ => absurd h (by omega)
  | _ + 1, 0, _, _, _, h => absurd h (by omega)
  | n + 1, m + 1, k, hk, h1, h2 => by
    unfold runsN
    by_cases hl : fst p k < 256
    · rw [if_pos hl, if_pos hl]
      have hge := fst_ge p k
      have hgt := end_gt p _ hl (fst_hit p k hk hl)
      rw [runsN_fuel p n m _ (fst_le (notP p) _ (by omega)) (by omega) (by omega)]
    · rw [if_neg hl, if_neg hl]
theorem runsN_step (p : Nat → Bool) (k : Nat) (hk : k ≤ 256) (hl : fst p k < 256) : runsN p 257 k = runT (fst p k) (fst (notP p) (fst p k)) :: runsN p 257 (fst (notP p) (fst p k)) := by
  have hge := fst_ge p k
  have hgt := end_gt p _ hl (fst_hit p k hk hl)
  conv => lhs; unfold runsN
  rw [if_pos hl, runsN_fuel p 256 257 _ (fst_le (notP p) _ (by omega)) (by omega) (by omega)]
theorem runsN_end (p : Nat → Bool) (k : Nat) (hl : ¬ fst p k < 256) : runsN p 257 k = [] := by
  unfold runsN
  rw [if_neg hl]
/-- What of p is left from k on. -/
def fromK (p : Nat → Bool) (k c : Nat) : Bool := p c && decide (k ≤ c)
theorem fst_from (p : Nat → Bool) (k : Nat) (hk : k ≤ 256) : fst (fromK p k) 0 = fst p k := by
  have hge := fst_ge p k
  refine fst_uniq _ _ _ (Nat.zero_le _) (fst_le p k hk) (fun j _ hj => ?_) (fun h => ?_)
  · unfold fromK
    by_cases hkj : k ≤ j
    · rw [fst_miss p k j hkj hj]; rfl
    · simp [hkj]
  · unfold fromK
    rw [fst_hit p k hk h]
    simpa using hge
/-- The end of the run that begins at low. -/
theorem fst_end (p : Nat → Bool) (k lo : Nat) (h1 : k ≤ lo) (h2 : lo ≤ 256) : fst (fun c => !(fromK p k c) && !(decide (c < lo))) 0 = fst (notP p) lo := by
  have hge := fst_ge (notP p) lo
  refine fst_uniq _ _ _ (Nat.zero_le _) (fst_le _ lo h2) (fun j _ hj => ?_) (fun h => ?_)
  · by_cases hlj : lo ≤ j
    · have := fst_miss (notP p) lo j hlj hj
      simp only [notP, Bool.not_eq_false'] at this
      simp [fromK, this]
      omega
    · simp
      omega
  · have := fst_hit (notP p) lo h2 h
    simp only [notP, Bool.not_eq_true'] at this
    simp [fromK, this]
    omega
theorem from_next (p : Nat → Bool) (k e : Nat) (h : k ≤ e) : ∀ c, c < 256 → (fromK p k c && !(decide (c < e))) = fromK p e c := fun c _ => by
  unfold fromK
  cases p c
  · simp
  · rw [Bool.eq_iff_iff]
    simp
    omega
theorem fst_none (p : Nat → Bool) (k : Nat) (hk : k ≤ 256) : ¬ fst p k < 256 ↔ ∀ c, c < 256 → fromK p k c = false := by
  constructor
  · intro h c hc
    unfold fromK
    by_cases hkc : k ≤ c
    · rw [fst_miss p k c hkc (by omega)]; rfl
    · simp [hkc]
  · intro h hl
    have := h _ hl
    unfold fromK at this
    rw [fst_hit p k hk hl] at this
    have hge := fst_ge p k
    simp at this
    omega
theorem hex2_len (b : Nat) : (hex2 b).length = 2 := rfl
theorem runT_len (lo e : Nat) : (runT lo e).length ≤ 5 := by
  unfold runT
  rw [List.length_append, hex2_len]
  split
  · rw [List.length_cons, hex2_len]; omega
  · simp
theorem runsN_len (p : Nat → Bool) : ∀ n k, k ≤ 256 → (runsN p n k).length + k ≤ 256 ∧ ∀ x ∈ runsN p n k, x.length ≤ 5
  | 0, k, hk => ⟨by simp [runsN]; omega, fun x hx => by simp [runsN] at hx⟩
  | n + 1, k, hk => by
    unfold runsN
    by_cases hl : fst p k < 256
    · rw [if_pos hl]
      have hge := fst_ge p k
      have hgt := end_gt p _ hl (fst_hit p k hk hl)
      have hle := fst_le (notP p) (fst p k) (by omega)
      have ih := runsN_len p n _ hle
      refine ⟨?_, fun x hx => ?_⟩
      · rw [List.length_cons]
        have := ih.1
        omega
      · rcases List.mem_cons.1 hx with h | h
        · subst h; exact runT_len _ _
        · exact ih.2 x h
    · rw [if_neg hl]
      exact ⟨by simp; omega, fun x hx => by simp at hx⟩
theorem lens_le : ∀ (l : List (List UInt8)) (b : Nat), (∀ x ∈ l, x.length ≤ b) → Lib.lens l ≤ b * l.length
  | [], b, _ => by simp [Lib.lens]
  | x :: l, b, h => by
    have h1 := h x (by simp)
    have h2 := lens_le l b (fun y hy => h y (by simp [hy]))
    unfold Lib.lens at *
    simp only [List.map_cons, List.sum_cons, List.length_cons, Nat.mul_add, Nat.mul_one]
    omega
theorem runs_len (p : Nat → Bool) : (runs p).length ≤ 256 ∧ (Lib.join (runs p) [44]).length ≤ 1536 := by
  obtain ⟨h1, h2⟩ := runsN_len p 257 0 (by omega)
  have h3 := lens_le (runs p) 5 h2
  refine ⟨by unfold runs; omega, ?_⟩
  have hl : (runs p).length ≤ 256 := by unfold runs; omega
  cases hr : runs p with
  | nil => rw [Lib.join_nil]; simp
  | cons x r =>
    rw [hr] at h3 hl
    rw [Lib.join_length]
    simp only [List.length_cons, List.length_nil] at *
    omega
theorem textL_len (p : Nat → Bool) : (textL p).length ≤ 1538 := by
  have := (runs_len p).2
  unfold textL
  simp only [List.length_cons, List.length_append, List.length_nil]
  omega
end Go.Proofs.YtopnckfmdjhbjaaGreatDoor
namespace Go.Proofs.YtopnckfmdjhbjaaGreatDoor
open Go.RowKit

theorem bytes_one (t : ByteArray) (b : Nat) (hb : b < 16) (h : bys t = [dch b]) : t = ⟨#[hxd b]⟩ := bys_inj (by
  rw [h]
  have := dch_bd b hb
  unfold bys hxd
  simp
  omega)
theorem bytes_two (t : ByteArray) (a b : Nat) (ha : a < 16) (hb : b < 16) (h : bys t = [dch a, dch b]) : t = ⟨#[hxd a, hxd b]⟩ := bys_inj (by
  rw [h]
  have h1 := dch_bd a ha
  have h2 := dch_bd b hb
  unfold bys hxd
  simp
  omega)
set_option maxHeartbeats 4000000 in
theorem hex_any (b : Nat) (hb : b < 256) (w : World) (h : DB w) :
    Calls Tryz.prog 69 #[.int .i64 b] w fun e w' => e = .returned (.string ⟨(hex2 b).toArray⟩) ∧ Below w.heap.size w w' := by
  have HB := Lib.hid (base16 b w (by omega) h)
  clear h
  go_enter Tryz.func69, Tryz.ntmps69
  go_wp2_with fail
  refine HB.out.mono ?_
  rintro e w1 ⟨t, rfl, ht, hb1⟩
  have HB1 := Lib.hid hb1
  clear hb1
  by_cases hs : b < 16
  · rw [digs_small 16 b hs] at ht
    obtain rfl := bytes_one t b hs ht
    have HX : Hid (hex2 b = [48, hxd b]) := Lib.hid (by unfold hex2; rw [Nat.div_eq_of_lt hs, Nat.mod_eq_of_lt hs]; rfl)
    clear ht
    go_wp2
    go_ret
    exact ⟨by rw [HX.out]; rfl, HB1.out⟩
  · have e1 : digs 16 b = [dch (b / 16), dch (b % 16)] := by
      rw [digs_step 16 b (by decide) (by omega), digs_small 16 (b / 16) (by omega)]; rfl
    rw [e1] at ht
    obtain rfl := bytes_two t _ _ (by omega) (by omega) ht
    clear ht e1
    have HX : Hid ((⟨#[hxd (b / 16), hxd (b % 16)]⟩ : ByteArray) = ⟨(hex2 b).toArray⟩) := Lib.hid rfl
    generalize hxd (b / 16) = c at *
    generalize hxd (b % 16) = d at *
    go_wp2
    go_ret
    exact ⟨by rw [HX.out]; rfl, HB1.out⟩

theorem sw_zero_of (p : Nat → Bool) (i : Nat) (h : sw p i = 0) : ∀ j, j < 64 → p (64 * i + j) = false := fun j hj => by
  have e := congrArg (·.testBit j) h
  simp only [sw, wd_testBit, Nat.zero_testBit] at e
  simpa [hj] using e
theorem least_none (p : Nat → Bool) (h : ∀ i, i < 4 → sw p i = 0) : fst p 0 = 256 :=
  fst_uniq _ _ _ (Nat.zero_le _) (Nat.le_refl _) (fun j _ hj => by
    have := sw_zero_of p (j / 64) (h _ (by omega)) (j % 64) (Nat.mod_lt _ (by decide))
    rwa [Nat.div_add_mod] at this) (fun h => absurd h (by omega))
theorem least_at (p : Nat → Bool) (i : Nat) (hi : i < 4) (h : ∀ k, k < i → sw p k = 0) (h0 : sw p i ≠ 0) : fst p 0 = i * 64 + Lib.ctz 64 (sw p i) := by
  obtain ⟨hc, hq, hl⟩ := ctz_least (fun j => p (64 * i + j)) h0
  have e : wd (fun j => p (64 * i + j)) = sw p i := rfl
  rw [e] at hc hq hl
  refine fst_uniq _ _ _ (Nat.zero_le _) (by omega) (fun j _ hj => ?_) (fun _ => by rw [Nat.mul_comm]; exact hq)
  rcases Nat.lt_or_ge (j / 64) i with hlt | hge
  · have := sw_zero_of p (j / 64) (h _ hlt) (j % 64) (Nat.mod_lt _ (by decide))
    rwa [Nat.div_add_mod] at this
  · have := hl (j % 64) (by omega)
    rwa [show 64 * i + j % 64 = j by omega] at this

set_option maxHeartbeats 4000000 in
theorem least_w0 (x0 x1 x2 x3 c : Nat) (hc : c < 64) (_h0 : ((x0 : Int) == 0) = false) (h0' : ((x0 : Int) != 0) = true) (w : World)
    (HC : ∀ w', Below w.heap.size w w' → Hid (Calls Tryz.prog 73 #[.int .u64 (x0 : Nat)] w' fun e w'' => e = .returned (.int .i64 (c : Nat)) ∧ w' = w'')) :
    Calls Tryz.prog 65 #[.agg #[.int .u64 (x0 : Nat), .int .u64 (x1 : Nat), .int .u64 (x2 : Nat), .int .u64 (x3 : Nat)]] w fun e w' => e = .returned (.int .i64 (0 * 64 + c : Nat)) ∧ Below w.heap.size w w' := by
  have i0 := arr_idx0 (.int .u64 (x0 : Nat)) (.int .u64 (x1 : Nat)) (.int .u64 (x2 : Nat)) (.int .u64 (x3 : Nat))
  go_enter Tryz.func65, Tryz.ntmps65
  go_wp2
  refine wp_loop_rounds 5 ?_
  rw [rounds_succ]
  go_wp2_with fail
  refine (HC _ ?_).out.mono ?_
  · exact (Below.refl _ _).alloc (Nat.le_refl _) _
  rintro e w' ⟨rfl, rfl⟩
  go_wp2
  go_ret
  exact ⟨ret_int (by omega), (Below.refl _ _).alloc (Nat.le_refl _) _⟩
set_option maxHeartbeats 4000000 in
theorem least_w1 (x1 x2 x3 c : Nat) (hc : c < 64) (_h0 : ((x1 : Int) == 0) = false) (h0' : ((x1 : Int) != 0) = true) (w : World)
    (HC : ∀ w', Below w.heap.size w w' → Hid (Calls Tryz.prog 73 #[.int .u64 (x1 : Nat)] w' fun e w'' => e = .returned (.int .i64 (c : Nat)) ∧ w' = w'')) :
    Calls Tryz.prog 65 #[.agg #[.int .u64 0, .int .u64 (x1 : Nat), .int .u64 (x2 : Nat), .int .u64 (x3 : Nat)]] w fun e w' => e = .returned (.int .i64 (1 * 64 + c : Nat)) ∧ Below w.heap.size w w' := by
  have i0 := arr_idx0 (.int .u64 0) (.int .u64 (x1 : Nat)) (.int .u64 (x2 : Nat)) (.int .u64 (x3 : Nat))
  have i1 := arr_idx1 (.int .u64 0) (.int .u64 (x1 : Nat)) (.int .u64 (x2 : Nat)) (.int .u64 (x3 : Nat))
  go_enter Tryz.func65, Tryz.ntmps65
  go_wp2
  refine wp_loop_rounds 5 ?_
  rw [rounds_succ]
  go_wp2
  rw [rounds_succ]
  go_wp2_with fail
  refine (HC _ ?_).out.mono ?_
  · exact (Below.refl _ _).alloc (Nat.le_refl _) _
  rintro e w' ⟨rfl, rfl⟩
  go_wp2
  go_ret
  exact ⟨ret_int (by omega), (Below.refl _ _).alloc (Nat.le_refl _) _⟩
set_option maxHeartbeats 4000000 in
theorem least_w2 (x2 x3 c : Nat) (hc : c < 64) (_h0 : ((x2 : Int) == 0) = false) (h0' : ((x2 : Int) != 0) = true) (w : World)
    (HC : ∀ w', Below w.heap.size w w' → Hid (Calls Tryz.prog 73 #[.int .u64 (x2 : Nat)] w' fun e w'' => e = .returned (.int .i64 (c : Nat)) ∧ w' = w'')) :
    Calls Tryz.prog 65 #[.agg #[.int .u64 0, .int .u64 0, .int .u64 (x2 : Nat), .int .u64 (x3 : Nat)]] w fun e w' => e = .returned (.int .i64 (2 * 64 + c : Nat)) ∧ Below w.heap.size w w' := by
  have i0 := arr_idx0 (.int .u64 0) (.int .u64 0) (.int .u64 (x2 : Nat)) (.int .u64 (x3 : Nat))
  have i1 := arr_idx1 (.int .u64 0) (.int .u64 0) (.int .u64 (x2 : Nat)) (.int .u64 (x3 : Nat))
  have i2 := arr_idx2 (.int .u64 0) (.int .u64 0) (.int .u64 (x2 : Nat)) (.int .u64 (x3 : Nat))
  go_enter Tryz.func65, Tryz.ntmps65
  go_wp2
  refine wp_loop_rounds 5 ?_
  iterate 2 (rw [rounds_succ]; go_wp2)
  rw [rounds_succ]
  go_wp2_with fail
  refine (HC _ ?_).out.mono ?_
  · exact (Below.refl _ _).alloc (Nat.le_refl _) _
  rintro e w' ⟨rfl, rfl⟩
  go_wp2
  go_ret
  exact ⟨ret_int (by omega), (Below.refl _ _).alloc (Nat.le_refl _) _⟩
set_option maxHeartbeats 4000000 in
theorem least_w3 (x3 c : Nat) (hc : c < 64) (_h0 : ((x3 : Int) == 0) = false) (h0' : ((x3 : Int) != 0) = true) (w : World)
    (HC : ∀ w', Below w.heap.size w w' → Hid (Calls Tryz.prog 73 #[.int .u64 (x3 : Nat)] w' fun e w'' => e = .returned (.int .i64 (c : Nat)) ∧ w' = w'')) :
    Calls Tryz.prog 65 #[.agg #[.int .u64 0, .int .u64 0, .int .u64 0, .int .u64 (x3 : Nat)]] w fun e w' => e = .returned (.int .i64 (3 * 64 + c : Nat)) ∧ Below w.heap.size w w' := by
  have i0 := arr_idx0 (.int .u64 0) (.int .u64 0) (.int .u64 0) (.int .u64 (x3 : Nat))
  have i1 := arr_idx1 (.int .u64 0) (.int .u64 0) (.int .u64 0) (.int .u64 (x3 : Nat))
  have i2 := arr_idx2 (.int .u64 0) (.int .u64 0) (.int .u64 0) (.int .u64 (x3 : Nat))
  have i3 := arr_idx3 (.int .u64 0) (.int .u64 0) (.int .u64 0) (.int .u64 (x3 : Nat))
  go_enter Tryz.func65, Tryz.ntmps65
  go_wp2
  refine wp_loop_rounds 5 ?_
  iterate 3 (rw [rounds_succ]; go_wp2)
  rw [rounds_succ]
  go_wp2_with fail
  refine (HC _ ?_).out.mono ?_
  · exact (Below.refl _ _).alloc (Nat.le_refl _) _
  rintro e w' ⟨rfl, rfl⟩
  go_wp2
  go_ret
  exact ⟨ret_int (by omega), (Below.refl _ _).alloc (Nat.le_refl _) _⟩
set_option maxHeartbeats 4000000 in
theorem least_w4 (w : World) :
    Calls Tryz.prog 65 #[.agg #[.int .u64 0, .int .u64 0, .int .u64 0, .int .u64 0]] w fun e w' => e = .returned (.int .i64 256) ∧ Below w.heap.size w w' := by
  have i0 := arr_idx0 (.int .u64 0) (.int .u64 0) (.int .u64 0) (.int .u64 0)
  have i1 := arr_idx1 (.int .u64 0) (.int .u64 0) (.int .u64 0) (.int .u64 0)
  have i2 := arr_idx2 (.int .u64 0) (.int .u64 0) (.int .u64 0) (.int .u64 0)
  have i3 := arr_idx3 (.int .u64 0) (.int .u64 0) (.int .u64 0) (.int .u64 0)
  go_enter Tryz.func65, Tryz.ntmps65
  go_wp2
  refine wp_loop_rounds 5 ?_
  iterate 5 (rw [rounds_succ]; go_wp2)
  go_ret
  exact ⟨rfl, (Below.refl _ _).alloc (Nat.le_refl _) _⟩
/-- The least byte of a set. -/
theorem least_any (p : Nat → Bool) (w : World) (hT : TZ w) :
    Calls Tryz.prog 65 #[SV p] w fun e w' => e = .returned (.int .i64 (fst p 0 : Nat)) ∧ Below w.heap.size w w' := by
  have hz : ∀ i, sw p i ≠ 0 → (((sw p i : Nat) : Int) == 0) = false ∧ (((sw p i : Nat) : Int) != 0) = true := fun i h => ⟨by simp; omega, by simp; omega⟩
  have hc : ∀ i, sw p i ≠ 0 → Lib.ctz 64 (sw p i) < 64 := fun i h => (ctz_least (fun j => p (64 * i + j)) h).1
  have HC : ∀ i, sw p i ≠ 0 → ∀ w', Below w.heap.size w w' → Hid (Calls Tryz.prog 73 #[.int .u64 (sw p i : Nat)] w' fun e w'' => e = .returned (.int .i64 (Lib.ctz 64 (sw p i) : Nat)) ∧ w' = w'') :=
    fun i h w' hb => Lib.hid ((tz_any (sw p i) (by have := sw_lt p i; omega) h w' (hT.below hb)).mono fun _ _ h => ⟨h.1, h.2.symm⟩)
  unfold SV
  by_cases h0 : sw p 0 = 0
  · by_cases h1 : sw p 1 = 0
    · by_cases h2 : sw p 2 = 0
      · by_cases h3 : sw p 3 = 0
        · rw [least_none p (fun i hi => by rcases (by omega : i = 0 ∨ i = 1 ∨ i = 2 ∨ i = 3) with rfl | rfl | rfl | rfl <;> assumption), h0, h1, h2, h3]
          exact least_w4 w
        · rw [least_at p 3 (by decide) (fun k hk => by rcases (by omega : k = 0 ∨ k = 1 ∨ k = 2) with rfl | rfl | rfl <;> assumption) h3, h0, h1, h2]
          exact least_w3 _ _ (hc 3 h3) (hz 3 h3).1 (hz 3 h3).2 w (HC 3 h3)
      · rw [least_at p 2 (by decide) (fun k hk => by rcases (by omega : k = 0 ∨ k = 1) with rfl | rfl <;> assumption) h2, h0, h1]
        exact least_w2 _ _ _ (hc 2 h2) (hz 2 h2).1 (hz 2 h2).2 w (HC 2 h2)
    · rw [least_at p 1 (by decide) (fun k hk => by obtain rfl : k = 0 := (by omega); exact h0) h1, h0]
      exact least_w1 _ _ _ _ (hc 1 h1) (hz 1 h1).1 (hz 1 h1).2 w (HC 1 h1)
  · rw [least_at p 0 (by decide) (fun k hk => absurd hk (by omega)) h0]
    exact least_w0 _ _ _ _ _ (hc 0 h0) (hz 0 h0).1 (hz 0 h0).2 w (HC 0 h0)
end Go.Proofs.YtopnckfmdjhbjaaGreatDoor
