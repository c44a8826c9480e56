/- The walk of the statement on whole texts as numbers. -/
import Derived.Test.YtnpjbpchnkobnaaScAwake
import Derived.Test.YtnpjbpchnkobnaaScOpen
import Derived.Test.YtnpjbpchnkobnaaScConv
import Derived.LoopTactic
import Derived.ChangeMaps5
namespace Go.Proofs.Ytnpjbpchnkobnaa
open Go.RowKit

/-- Does a list of bytes begin with a minus; what stands behind it; the most that it may write. -/
def wD (l : List Int) : List Int := if l.getD 0 0 = 45 then l.drop 1 else l
def wM (l : List Int) : Int := if l.getD 0 0 = 45 then 9223372036854775808 else 9223372036854775807
/-- Is it a number's text, and which number's. -/
def wOk (l : List Int) : Bool := decide (0 < (wD l).length ∧ rN 10 (wD l) = (wD l).length ∧ valK 10 (wD l) (wD l).length ≤ wM l)
def wV (l : List Int) : Int := if wOk l = true then (if l.getD 0 0 = 45 then - valK 10 (wD l) (wD l).length else valK 10 (wD l) (wD l).length) else 0

theorem first_bytes (s : ByteArray) : ((s.extract 0 1).toList == [45]) = decide ((bys s).getD 0 0 = 45) := by
  rw [ByteArray.toList_eq, ByteArray.data_extract, Array.toList_extract]
  unfold bys
  generalize s.data.toList = l
  cases l with
  | nil => simp
  | cons c l =>
    rw [Bool.eq_iff_iff]
    simp
    constructor
    · intro h; rw [h]; rfl
    · intro h
      apply UInt8.toNat_inj.1
      have : ((45 : UInt8).toNat : Int) = 45 := rfl
      omega

theorem minus_pos (s : ByteArray) (h : (bys s).getD 0 0 = 45) : 0 < s.size := by
  rcases Nat.eq_zero_or_pos s.size with h0 | h0
  · have : bys s = [] := List.length_eq_zero_iff.1 (by rw [bys_length]; exact h0)
    rw [this] at h
    simp at h
  · exact h0

set_option maxHeartbeats 4000000 in
theorem cutMinus_yes (s : ByteArray) (w : World) (h : (bys s).getD 0 0 = 45) :
    Calls Try.prog 36 #[.string s, .string { data := #[45] }] w fun e w' => e = .returned (.tuple #[.string (s.extract 1 s.size), .bool true]) ∧ w = w' := by
  have hp := minus_pos s h
  have hf := first_bytes s
  rw [decide_eq_true h] at hf
  clear h
  have hp' : (1 : Int) ≤ s.size := by omega
  go_enter Try.func36, Try.ntmps36
  go_wp2
  all_goals first | (exfalso; simp_all; done) | (go_ret2; exact ⟨rfl, rfl⟩)

set_option maxHeartbeats 4000000 in
theorem cutMinus_no (s : ByteArray) (w : World) (h : ¬ (bys s).getD 0 0 = 45) :
    Calls Try.prog 36 #[.string s, .string { data := #[45] }] w fun e w' => e = .returned (.tuple #[.string s, .bool false]) ∧ w = w' := by
  have hf := first_bytes s
  rw [decide_eq_false h] at hf
  clear h
  go_enter Try.func36, Try.ntmps36
  go_wp2
  all_goals first | (exfalso; simp_all; done) | (go_ret2; exact ⟨rfl, rfl⟩)

theorem bys_minus (s : ByteArray) : bys (s.extract 1 s.size) = (bys s).drop 1 := by
  rw [bys_extract, List.take_of_length_le (by rw [List.length_drop, bys_length]; exact Nat.le_refl _)]

theorem wrap_neg (x : Int) (h0 : 0 ≤ x) (h1 : x ≤ 9223372036854775808) : wrap64 (IntKind.u64.wrap (-x)) = -x := by
  unfold wrap64 IntKind.wrap
  simp [IntKind.signed, IntKind.bits]
  omega

/-- What Whole accepts, by what read tells. -/
theorem wOk_read (l : List Int) : wOk l = (!rO 10 (wM l) (wD l) && decide (0 < rN 10 (wD l)) && decide (rN 10 (wD l) = (wD l).length)) := by
  unfold wOk rO ovr
  rw [Bool.eq_iff_iff]
  simp
  constructor
  · rintro ⟨h1, h2, h3⟩
    rw [h2]
    exact ⟨⟨h3, h1⟩, rfl⟩
  · rintro ⟨⟨h1, h2⟩, h3⟩
    rw [h3] at h1 h2
    exact ⟨h2, h3, h1⟩
theorem wV_read (l : List Int) : wV l = if wOk l = true then (if l.getD 0 0 = 45 then - rV 10 (wM l) (wD l) else rV 10 (wM l) (wD l)) else 0 := by
  unfold wV
  by_cases h : wOk l = true
  · rw [if_pos h, if_pos h]
    unfold wOk at h
    simp only [decide_eq_true_eq] at h
    have e : rV 10 (wM l) (wD l) = valK 10 (wD l) (wD l).length := by
      unfold rV cut
      rw [h.2.1, if_pos h.2.2]
    rw [e]
  · rw [if_neg h, if_neg h]

set_option maxHeartbeats 4000000 in
theorem whole_yes (s : ByteArray) (w : World) (hs : s.size ≤ 9223372036854775807) (h : (bys s).getD 0 0 = 45) :
    Calls Try.prog 25 #[.string s] w fun e w' => e = .returned (.tuple #[.int .i64 (wV (bys s)), .bool (wOk (bys s))]) ∧ w = w' := by
  have HC := Lib.hid (cutMinus_yes s w h)
  have hp := minus_pos s h
  have hz : (s.extract 1 s.size).size = s.size - 1 := by simp
  have HR := Lib.hid (readS_any (s.extract 1 s.size) 10 9223372036854775808 w (by omega) (by omega) (by omega) (by omega) (by omega))
  have hwd : wD (bys s) = bys (s.extract 1 s.size) := by unfold wD; rw [if_pos h, bys_minus]
  have hwm : wM (bys s) = 9223372036854775808 := by unfold wM; rw [if_pos h]
  have HV := Lib.hid (wV_read (bys s))
  have HO := Lib.hid (wOk_read (bys s))
  rw [if_pos h, hwm, hwd] at HV
  rw [hwm, hwd, bys_length, hz] at HO
  obtain ⟨x0, x1⟩ := rV_bd 10 9223372036854775808 (bys (s.extract 1 s.size)) (by omega) (by omega)
  have HZ : Hid (rN 10 (bys (s.extract 1 s.size)) ≤ s.size - 1) := by have := pre_le (dig? 10) (bys (s.extract 1 s.size)); rw [bys_length, hz] at this; exact this
  generalize rV 10 9223372036854775808 (bys (s.extract 1 s.size)) = x at *
  generalize rO 10 9223372036854775808 (bys (s.extract 1 s.size)) = y at *
  generalize rN 10 (bys (s.extract 1 s.size)) = z at *
  generalize wV (bys s) = a at *
  generalize wOk (bys s) = b at *
  clear hwd hwm hz h
  by_cases hgood : y = false ∧ 0 < z ∧ z = s.size - 1
  · obtain ⟨rfl, hz0, rfl⟩ := hgood
    have HA : Hid (-x = a ∧ true = b) := by
      have hb : b = true := by rw [HO.out]; simp; omega
      exact ⟨by rw [HV.out, if_pos hb], hb.symm⟩
    clear HO HV
    have hz1 : ((s.size - 1 : Nat) : Int) ≠ 0 := by omega
    go_enter Try.func25, Try.ntmps25
    go_wp2_with (first | (go_at_call 36; refine HC.out.mono ?_; rintro e w' ⟨rfl, rfl⟩) | (go_at_call 37; refine HR.out.mono ?_; rintro e w' ⟨rfl, rfl⟩))
    all_goals first | (exfalso; omega) | (go_ret2; exact ⟨ret_vb (by rw [wrap_neg _ x0 x1]; exact HA.out.1) HA.out.2, rfl⟩)
  · have HA : Hid (0 = a ∧ false = b) := by
      have hb : b = false := by rw [HO.out]; simp; intro h1 h2 h3; exact hgood ⟨h1, h2, h3⟩
      exact ⟨by rw [HV.out, hb]; rfl, hb.symm⟩
    have hg : y = true ∨ (y = false ∧ (z = 0 ∨ (z ≠ 0 ∧ z < s.size - 1))) := by
      cases y with
      | true => exact Or.inl rfl
      | false => exact Or.inr ⟨rfl, by
          by_cases h0 : z = 0
          · exact Or.inl h0
          · exact Or.inr ⟨h0, by
              have hle := HZ.out
              by_cases h1 : z = s.size - 1
              · exact absurd ⟨rfl, by omega, h1⟩ hgood
              · omega⟩⟩
    clear HO HV hgood
    rcases hg with rfl | ⟨rfl, rfl | ⟨hz0, hz1⟩⟩
    all_goals
      go_enter Try.func25, Try.ntmps25
      go_wp2_with (first | (go_at_call 36; refine HC.out.mono ?_; rintro e w' ⟨rfl, rfl⟩) | (go_at_call 37; refine HR.out.mono ?_; rintro e w' ⟨rfl, rfl⟩))
      all_goals first | (exfalso; omega) | (go_ret2; exact ⟨ret_vb HA.out.1 HA.out.2, rfl⟩)

set_option maxHeartbeats 4000000 in
theorem whole_no (s : ByteArray) (w : World) (hs : s.size ≤ 9223372036854775807) (h : ¬ (bys s).getD 0 0 = 45) :
    Calls Try.prog 25 #[.string s] w fun e w' => e = .returned (.tuple #[.int .i64 (wV (bys s)), .bool (wOk (bys s))]) ∧ w = w' := by
  have HC := Lib.hid (cutMinus_no s w h)
  have HR := Lib.hid (readS_any s 10 9223372036854775807 w (by omega) (by omega) (by omega) (by omega) (by omega))
  have hwd : wD (bys s) = bys (s) := by unfold wD; rw [if_neg h]
  have hwm : wM (bys s) = 9223372036854775807 := by unfold wM; rw [if_neg h]
  have HV := Lib.hid (wV_read (bys s))
  have HO := Lib.hid (wOk_read (bys s))
  rw [if_neg h, hwm, hwd] at HV
  rw [hwm, hwd, bys_length] at HO
  obtain ⟨x0, x1⟩ := rV_bd 10 9223372036854775807 (bys s) (by omega) (by omega)
  have HZ : Hid (rN 10 (bys s) ≤ s.size) := by have := pre_le (dig? 10) (bys s); rw [bys_length] at this; exact this
  generalize rV 10 9223372036854775807 (bys s) = x at *
  generalize rO 10 9223372036854775807 (bys s) = y at *
  generalize rN 10 (bys s) = z at *
  generalize wV (bys s) = a at *
  generalize wOk (bys s) = b at *
  clear hwd hwm h
  by_cases hgood : y = false ∧ 0 < z ∧ z = s.size
  · obtain ⟨rfl, hz0, rfl⟩ := hgood
    have HA : Hid (x = a ∧ true = b) := by
      have hb : b = true := by rw [HO.out]; simp; omega
      exact ⟨by rw [HV.out, if_pos hb], hb.symm⟩
    clear HO HV
    have hz1 : ((s.size : Nat) : Int) ≠ 0 := by omega
    go_enter Try.func25, Try.ntmps25
    go_wp2_with (first | (go_at_call 36; refine HC.out.mono ?_; rintro e w' ⟨rfl, rfl⟩) | (go_at_call 37; refine HR.out.mono ?_; rintro e w' ⟨rfl, rfl⟩))
    all_goals first | (exfalso; omega) | (go_ret2; exact ⟨ret_vb HA.out.1 HA.out.2, rfl⟩)
  · have HA : Hid (0 = a ∧ false = b) := by
      have hb : b = false := by rw [HO.out]; simp; intro h1 h2 h3; exact hgood ⟨h1, h2, h3⟩
      exact ⟨by rw [HV.out, hb]; rfl, hb.symm⟩
    have hg : y = true ∨ (y = false ∧ (z = 0 ∨ (z ≠ 0 ∧ z < s.size))) := by
      cases y with
      | true => exact Or.inl rfl
      | false => exact Or.inr ⟨rfl, by
          by_cases h0 : z = 0
          · exact Or.inl h0
          · exact Or.inr ⟨h0, by
              have hle := HZ.out
              by_cases h1 : z = s.size
              · exact absurd ⟨rfl, by omega, h1⟩ hgood
              · omega⟩⟩
    clear HO HV hgood
    rcases hg with rfl | ⟨rfl, rfl | ⟨hz0, hz1⟩⟩
    all_goals
      go_enter Try.func25, Try.ntmps25
      go_wp2_with (first | (go_at_call 36; refine HC.out.mono ?_; rintro e w' ⟨rfl, rfl⟩) | (go_at_call 37; refine HR.out.mono ?_; rintro e w' ⟨rfl, rfl⟩))
      all_goals first | (exfalso; omega) | (go_ret2; exact ⟨ret_vb HA.out.1 HA.out.2, rfl⟩)

theorem whole_any (s : ByteArray) (w : World) (hs : s.size ≤ 9223372036854775807) :
    Calls Try.prog 25 #[.string s] w fun e w' => e = .returned (.tuple #[.int .i64 (wV (bys s)), .bool (wOk (bys s))]) ∧ w = w' := by
  by_cases h : (bys s).getD 0 0 = 45
  · exact whole_yes s w hs h
  · exact whole_no s w hs h
end Go.Proofs.Ytnpjbpchnkobnaa
