/- scan.Name by contract (without the reference's). -/
import Derived.Test.YtlmoeldillpamaaDoorScDigits
import Derived.LoopTactic
import Derived.Deep.QuietTactic
namespace Go.Proofs.YtlmoeldillpamaaDoor
open Go.RowKit

set_option maxHeartbeats 2000000 in
theorem inName_any (c k : Int) (w : World) (h0 : 0 ≤ c) (h1 : c ≤ 255) (hk : 0 ≤ k) :
    Calls Tryd.prog 61 #[.int .u8 c, .int .i64 k] w fun e w' => e = .returned (.bool (letB c || (decide (0 < k) && numB c))) ∧ w = w' := by
  have hd : ∃ x, x = (letB c || (decide (0 < k) && numB c)) := ⟨_, rfl⟩
  obtain ⟨x, hx⟩ := hd
  rw [← hx]
  have HX := Lib.hid hx
  clear hx
  rcases (by omega : k = 0 ∨ 0 < k) with rfl | hkp
  all_goals
    rcases (by omega : c < 48 ∨ (48 ≤ c ∧ c ≤ 57) ∨ (57 < c ∧ c < 65) ∨ (65 ≤ c ∧ c ≤ 90) ∨ (90 < c ∧ c < 95) ∨ c = 95 ∨ c = 96 ∨ (97 ≤ c ∧ c ≤ 122) ∨ 122 < c) with h | h | h | h | h | rfl | rfl | h | h
    all_goals
      go_enter Tryd.func61, Tryd.ntmps61
      go_wp2
      all_goals
        go_ret
        exact ⟨ret_bool (by rw [HX.out]; unfold letB numB; rw [Bool.eq_iff_iff]; simp; try omega), rfl⟩

/-- k is where p stops to hold, counted from 0, or n. -/
def IsStop (p : Nat → Bool) (n k : Nat) : Prop := k ≤ n ∧ (∀ j, j < k → p j = true) ∧ (k < n → p k = false)
theorem IsStop.same {p : Nat → Bool} {n k k' : Nat} (h : IsStop p n k) (h' : IsStop p n k') : k = k' := by
  obtain ⟨a, b, c⟩ := h
  obtain ⟨a', b', c'⟩ := h'
  rcases Nat.lt_trichotomy k k' with g | g | g
  · have := c (by omega); rw [b' k g] at this; cases this
  · exact g
  · have := c' (by omega); rw [b k' g] at this; cases this
def stopN (p : Nat → Bool) : Nat → Nat
  | 0 => 0
  | n + 1 => if stopN p n = n ∧ p n = true then n + 1 else stopN p n
theorem stopN_is (p : Nat → Bool) : ∀ n, IsStop p n (stopN p n)
  | 0 => ⟨by simp [stopN], fun j hj => absurd hj (by simp [stopN]), fun h => absurd h (by omega)⟩
  | n + 1 => by
    obtain ⟨a, b, c⟩ := stopN_is p n
    unfold stopN
    by_cases h : stopN p n = n ∧ p n = true
    · rw [if_pos h]
      refine ⟨by omega, fun j hj => ?_, fun h => absurd h (by omega)⟩
      by_cases hj' : j = n
      · rw [hj']; exact h.2
      · exact b j (by omega)
    · rw [if_neg h]
      refine ⟨by omega, b, fun hlt => ?_⟩
      by_cases hn : stopN p n = n
      · rw [hn]; simpa using fun hp => h ⟨hn, hp⟩
      · exact c (by omega)

/-- May a name have the byte there? -/
def nameB (l : List Int) (j : Nat) : Bool := letB (l.getD j 0) || (decide ((0 : Int) < j) && numB (l.getD j 0))

set_option maxHeartbeats 4000000 in
theorem name_cells (b o cap : Nat) (l : List Int) (w : World) (hl : l.length ≤ 9223372036854775807) (hy : Byt l) (hc : Row w b o l) :
    Calls Tryd.prog 44 #[.slice (some ⟨b, o, none⟩) l.length cap] w fun e w' => e = .returned (.int .i64 (stopN (nameB l) l.length)) ∧ w = w' := by
  have HC := Lib.hid hc
  have HY := Lib.hid hy
  clear hc hy
  obtain ⟨n, hn⟩ : ∃ n, n = l.length := ⟨_, rfl⟩
  rw [← hn] at hl ⊢
  have HN := Lib.hid hn
  clear hn
  go_enter Tryd.func44, Tryd.ntmps44
  go_wp2
  go_loop [3] (fun i => ∃ k : Nat, k ≤ n ∧ (∀ j, j < k → nameB l j = true) ∧ i = .int .i64 k) (fun i => n - (intOf i).toNat)
  case atStart => exact ⟨0, Nat.zero_le _, fun j hj => absurd hj (by omega), rfl⟩
  case round =>
    obtain ⟨k, hk, hd, rfl⟩ := hrel
    have HD := Lib.hid hd
    clear hd
    by_cases hlt : k < n
    · have hcell := HC.out k (by rw [← HN.out]; exact hlt)
      have hby := HY.out k
      obtain ⟨q, hq⟩ : ∃ q, q = nameB l k := ⟨_, rfl⟩
      have HQ : Hid (q = (letB (l.getD k 0) || (decide ((0 : Int) < k) && numB (l.getD k 0)))) := hq
      have HK := Lib.hid hq
      clear hq
      generalize l.getD k 0 = c at hcell hby HQ
      obtain ⟨y0, y1⟩ := hby
      have hk0 : (0 : Int) ≤ k := by omega
      have HI := Lib.hid (inName_any c k w y0 y1 hk0)
      rw [← HQ.out] at HI
      clear HQ
      cases q with
      | true =>
        go_wp2_with (go_at_call 61; refine HI.out.mono ?_; rintro e w' ⟨rfl, rfl⟩)
        go_round
        case rel =>
          refine ⟨k + 1, by omega, fun j hj => ?_, by go_num⟩
          by_cases hjk : j = k
          · rw [hjk]; exact HK.out.symm
          · exact HD.out j (by omega)
        case measure => simp [intOf]; omega
      | false =>
        have HS : Hid (stopN (nameB l) n = k) := (stopN_is _ _).same ⟨by omega, HD.out, fun _ => HK.out.symm⟩
        go_wp2_with (go_at_call 61; refine HI.out.mono ?_; rintro e w' ⟨rfl, rfl⟩)
        go_ret
        exact ⟨ret_int (by rw [HS.out]), rfl⟩
    · obtain rfl : k = n := by omega
      have HS : Hid (stopN (nameB l) k = k) := (stopN_is _ _).same ⟨by omega, HD.out, fun h => absurd h (by omega)⟩
      go_wp2
      go_ret
      exact ⟨ret_int (by rw [HS.out]), rfl⟩

theorem name_none (a : Option Addr) (cap : Nat) (w : World) :
    Calls Tryd.prog 44 #[.slice a 0 cap] w fun e w' => e = .returned (.int .i64 (stopN (nameB []) 0)) ∧ w = w' := by
  have HS : Hid (stopN (nameB []) 0 = 0) := rfl
  go_enter Tryd.func44, Tryd.ntmps44
  go_wp2
  go_loop [3] (fun i => i = .int .i64 0) (fun _ => 0)
  case atStart => rfl
  case round =>
    obtain rfl := hrel
    go_wp2
    go_ret
    exact ⟨ret_int (by rw [HS.out]; rfl), rfl⟩

theorem nm_any (v : Value) (l : List Int) (w : World) (hs : Sl w v l) :
    Calls Tryd.prog 44 #[v] w (fun e w' => e = .returned (.int .i64 (stopN (nameB l) l.length)) ∧ w = w') := by
  obtain ⟨hy, hl, ⟨rfl, a, cap, rfl⟩ | ⟨b, o, cap, rfl, hcl, hcm, hr⟩⟩ := hs
  · exact name_none a cap w
  · exact name_cells b o cap l w hl hy hr

end Go.Proofs.YtlmoeldillpamaaDoor
