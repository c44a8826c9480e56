/- Contracts of the small functions on tokens: white bytes, the operators. -/
import Derived.Test.YtacfglopionkfaaGreatDoorArMath
import Derived.WalkLawsBesides
import Derived.WalkSpells
namespace Go.Proofs.YtacfglopionkfaaGreatDoor
open Go.RowKit

set_option maxHeartbeats 2000000 in
theorem isWhite_any (c : Int) (w : World) :
    Calls Tryz.prog 103 #[.int .u8 c] w fun e w' => e = .returned (.bool (whiteB c)) ∧ w = w' := by
  have hd : ∃ x, x = whiteB c := ⟨_, rfl⟩
  obtain ⟨x, hx⟩ := hd
  rw [← hx]
  have HX := Lib.hid hx
  clear hx
  rcases (by omega : c = 32 ∨ c = 9 ∨ c = 10 ∨ (c ≠ 32 ∧ c ≠ 9 ∧ c ≠ 10)) with rfl | rfl | rfl | ⟨h1, h2, h3⟩
  · go_enter Tryz.func103, Tryz.ntmps103
    go_wp2
    go_ret
    exact ⟨ret_bool (by rw [HX.out]; rfl), rfl⟩
  · go_enter Tryz.func103, Tryz.ntmps103
    go_wp2
    go_ret
    exact ⟨ret_bool (by rw [HX.out]; rfl), rfl⟩
  · go_enter Tryz.func103, Tryz.ntmps103
    go_wp2
    go_ret
    exact ⟨ret_bool (by rw [HX.out]; rfl), rfl⟩
  · have e1 : (c == 32) = false := by simpa using h1
    have e2 : (c == 9) = false := by simpa using h2
    have e3 : (c == 10) = false := by simpa using h3
    go_enter Tryz.func103, Tryz.ntmps103
    go_wp2
    go_ret
    exact ⟨ret_bool (by rw [HX.out]; unfold whiteB; rw [e1, e2, e3]; rfl), rfl⟩

theorem toList_beq (s t : ByteArray) : (s.toList == t.toList) = decide (s = t) := by
  rw [Bool.eq_iff_iff]
  simp only [beq_iff_eq, decide_eq_true_eq, ByteArray.toList_eq]
  exact ⟨fun h => WideShapes.bytes_inj h, fun h => by rw [h]⟩
theorem tl_beq (s : ByteArray) (l : List UInt8) : (s.toList == l) = decide (s = ⟨l.toArray⟩) := by
  rw [Bool.eq_iff_iff]
  simp only [beq_iff_eq, decide_eq_true_eq]
  constructor
  · intro h
    have h' := congrArg List.toArray h
    obtain ⟨d⟩ := s
    congr 1
    rw [← h']
    simp [ByteArray.toList_eq]
  · rintro rfl
    simp [ByteArray.toList_eq]

theorem tl_no {s : ByteArray} {l : List UInt8} (h : s ≠ ⟨l.toArray⟩) : (s.toList == l) = false := by rw [tl_beq]; simpa using h
theorem ret_str {a b : ByteArray} (h : a = b) : Ending.returned (.string a) = .returned (.string b) := by rw [h]

set_option maxHeartbeats 2000000 in
theorem unary_any (s : ByteArray) (w : World) :
    Calls Tryz.prog 189 #[.string s] w fun e w' => e = .returned (.string (unB s)) ∧ w = w' := by
  by_cases h1 : s = ⟨#[43]⟩
  · subst h1
    go_enter Tryz.func189, Tryz.ntmps189
    go_wp2
    go_ret
    exact ⟨ret_str (by decide), rfl⟩
  by_cases h2 : s = ⟨#[45]⟩
  · subst h2
    go_enter Tryz.func189, Tryz.ntmps189
    go_wp2
    go_ret
    exact ⟨ret_str (by decide), rfl⟩
  by_cases h3 : s = ⟨#[33]⟩
  · subst h3
    go_enter Tryz.func189, Tryz.ntmps189
    go_wp2
    go_ret
    exact ⟨ret_str (by decide), rfl⟩
  by_cases h4 : s = ⟨#[126]⟩
  · subst h4
    go_enter Tryz.func189, Tryz.ntmps189
    go_wp2
    go_ret
    exact ⟨ret_str (by decide), rfl⟩
  have HU : Hid (unB s = sEmpty) := Lib.hid (by unfold unB; rw [if_neg (by simp [h1, h2]), if_neg (by simp [h3, h4])])
  have e1 := tl_no h1
  have e2 := tl_no h2
  have e3 := tl_no h3
  have e4 := tl_no h4
  clear h1 h2 h3 h4
  go_enter Tryz.func189, Tryz.ntmps189
  go_wp2
  go_ret
  exact ⟨ret_str (by rw [HU.out]; rfl), rfl⟩

end Go.Proofs.YtacfglopionkfaaGreatDoor
