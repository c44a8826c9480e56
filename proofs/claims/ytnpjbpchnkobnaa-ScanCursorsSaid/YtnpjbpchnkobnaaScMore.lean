/- Contracts of While, Until, the reference's In and Bytes. -/
import Derived.Test.YtnpjbpchnkobnaaScPass
namespace Go.Proofs.Ytnpjbpchnkobnaa
open Go.RowKit

set_option maxHeartbeats 2000000 in
theorem while_any (b k : Nat) (s t : ByteArray) (w : World) (h : Cur w b s k) (ht : t.size ≤ 9223372036854775807) :
    Calls Try.prog 16 #[.pointer (some ⟨b, 0, none⟩), .string t] w (PassOut w b s k (passN s t true k)) := by
  have HP := Lib.hid (pass_any b k s t true w h ht)
  clear h
  generalize passN s t true k = d at *
  go_enter Try.func16, Try.ntmps16
  go_wp2_with fail
  refine HP.out.mono ?_
  rintro e w1 ⟨nb, cap, rfl, h1, h2, h3, h4⟩
  have HX : Hid (PassOut w b s k d (.returned (.slice (some ⟨nb, 0, none⟩) d cap)) w1) := ⟨nb, cap, rfl, h1, h2, h3, h4⟩
  clear h1 h2 h3 h4
  go_wp2
  go_ret
  exact HX.out

set_option maxHeartbeats 2000000 in
theorem until_any (b k : Nat) (s t : ByteArray) (w : World) (h : Cur w b s k) (ht : t.size ≤ 9223372036854775807) :
    Calls Try.prog 15 #[.pointer (some ⟨b, 0, none⟩), .string t] w (PassOut w b s k (passN s t false k)) := by
  have HP := Lib.hid (pass_any b k s t false w h ht)
  clear h
  generalize passN s t false k = d at *
  go_enter Try.func15, Try.ntmps15
  go_wp2_with fail
  refine HP.out.mono ?_
  rintro e w1 ⟨nb, cap, rfl, h1, h2, h3, h4⟩
  have HX : Hid (PassOut w b s k d (.returned (.slice (some ⟨nb, 0, none⟩) d cap)) w1) := ⟨nb, cap, rfl, h1, h2, h3, h4⟩
  clear h1 h2 h3 h4
  go_wp2
  go_ret
  exact HX.out

theorem inB_yes {c : Int} {l : List Int} (j : Nat) (h : j < l.length) (he : l.getD j 0 = c) : inB c l = true := by
  unfold inB
  rw [List.getD, List.getElem?_eq_getElem h] at he
  simp only [Option.getD_some] at he
  simp only [List.contains_iff_mem]
  rw [← he]
  exact List.getElem_mem h
theorem inB_no {c : Int} {l : List Int} (h : ∀ i, i < l.length → ¬ l.getD i 0 = c) : inB c l = false := by
  cases hb : inB c l with
  | false => rfl
  | true =>
    unfold inB at hb
    simp only [List.contains_iff_mem] at hb
    obtain ⟨i, hi, he⟩ := List.getElem_of_mem hb
    exact absurd (by rw [List.getD, List.getElem?_eq_getElem hi]; exact he) (h i hi)
theorem Mv.grown {w w' : World} {b k : Nat} {s : ByteArray} (h : Mv b s k w w') : w.grownBy w' (some b) := ⟨h.1.os, h.1.tape, h.1.output, h.1.size, fun i hi hn => h.2.2 i hi (fun e => hn (by rw [e]))⟩

set_option maxHeartbeats 2000000 in
theorem in_any (c : Int) (t : ByteArray) (w : World) (ht : t.size ≤ 9223372036854775807) :
    Calls Try.prog 14 #[.int .u8 c, .string t] w fun e w' => e = .returned (.bool (inB c (bys t))) ∧ w = w' := by
  go_enter Try.func14, Try.ntmps14
  go_wp2
  go_loop [8] (fun i => ∃ j : Nat, j ≤ t.size ∧ i = .int .i64 j ∧ ∀ i, i < j → ¬ (bys t).getD i 0 = c) (fun i => t.size - (intOf i).toNat)
  case atStart => exact ⟨0, Nat.zero_le _, rfl, fun i hi => absurd hi (by omega)⟩
  case round =>
    obtain ⟨j, hj, rfl, hall⟩ := hrel
    have HA := Lib.hid hall
    clear hall
    by_cases hlt : j < t.size
    · have HG := Lib.hid (bys_getD t j hlt)
      by_cases hc : (t[j].toNat : Int) = c
      · have HY : Hid (true = inB c (bys t)) := (inB_yes j (by rw [bys_length]; exact hlt) (by rw [HG.out]; exact hc)).symm
        have hc' : ((t[j].toNat : Int) == c) = true := by simpa using hc
        clear hc
        go_wp2
        go_ret
        exact ⟨ret_bool HY.out, rfl⟩
      · have hc' : ((t[j].toNat : Int) == c) = false := by simpa using hc
        have HN : Hid (¬ (bys t).getD j 0 = c) := by rw [HG.out]; exact hc
        clear hc
        go_wp2
        go_round
        case rel =>
          refine ⟨j + 1, by omega, by go_num, fun i hi => ?_⟩
          by_cases hij : i = j
          · rw [hij]; exact HN.out
          · exact HA.out i (by omega)
        case measure => simp [intOf]; omega
    · obtain rfl : j = t.size := by omega
      have HY : Hid (false = inB c (bys t)) := (inB_no (fun i hi => HA.out i (by rw [bys_length] at hi; exact hi))).symm
      go_wp2
      go_ret
      exact ⟨ret_bool HY.out, rfl⟩

set_option maxHeartbeats 2000000 in
theorem bytes_any (v v' : Value) (l l' : List Int) (w : World) (h : Sl w v l) (h' : Sl w v' l') :
    Calls Try.prog 17 #[v, v'] w fun e w' => e = .returned (.bool (decide (l = l'))) ∧ w = w' := by
  have c1 := conv_string h
  have c2 := conv_string h'
  have hb := toList_beq (ofBys l) (ofBys l')
  have hd : decide (ofBys l = ofBys l') = decide (l = l') := by
    rw [Bool.eq_iff_iff]
    simp only [decide_eq_true_eq]
    exact ⟨fun e => by rw [← bys_ofBys h.1, ← bys_ofBys h'.1, e], fun e => by rw [e]⟩
  rw [hd] at hb
  clear hd h h'
  generalize decide (l = l') = x at *
  go_enter Try.func17, Try.ntmps17
  go_wp2
  go_ret
  exact ⟨rfl, rfl⟩
end Go.Proofs.Ytnpjbpchnkobnaa
