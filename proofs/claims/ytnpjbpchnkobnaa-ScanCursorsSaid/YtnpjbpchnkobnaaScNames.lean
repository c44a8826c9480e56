/- The walk of the statement on names. -/
import Derived.Test.YtnpjbpchnkobnaaScAwake
import Derived.Test.YtnpjbpchnkobnaaScOpen
import Derived.LoopTactic
import Derived.Deep.QuietTactic
namespace Go.Proofs.Ytnpjbpchnkobnaa
open Go.RowKit

/-- k is where p stops to hold, counted from 0, or n. -/
def IsStop (p : Nat → Bool) (n k : Nat) : Prop := k ≤ n ∧ (∀ j, j < k → p j = true) ∧ (k < n → p k = false)
theorem IsStop.same {p : Nat → Bool} {n k k' : Nat} (h : IsStop p n k) (h' : IsStop p n k') : k = k' := by
  obtain ⟨a, b, c⟩ := h
  obtain ⟨a', b', c'⟩ := h'
  rcases Nat.lt_trichotomy k k' with g | g | g
  · have := c (by omega); rw [b' k g] at this; cases this
  · exact g
  · have := c' (by omega); rw [b k' g] at this; cases this
def stopN (p : Nat → Bool) : Nat → Nat
  | 0 => 0
  | n + 1 => if stopN p n = n ∧ p n = true then n + 1 else stopN p n
theorem stopN_is (p : Nat → Bool) : ∀ n, IsStop p n (stopN p n)
  | 0 => ⟨by simp [stopN], fun j hj => absurd hj (by simp [stopN]), fun h => absurd h (by omega)⟩
  | n + 1 => by
    obtain ⟨a, b, c⟩ := stopN_is p n
    unfold stopN
    by_cases h : stopN p n = n ∧ p n = true
    · rw [if_pos h]
      refine ⟨by omega, fun j hj => ?_, fun h => absurd h (by omega)⟩
      by_cases hj' : j = n
      · rw [hj']; exact h.2
      · exact b j (by omega)
    · rw [if_neg h]
      refine ⟨by omega, b, fun hlt => ?_⟩
      by_cases hn : stopN p n = n
      · rw [hn]; simpa using fun hp => h ⟨hn, hp⟩
      · exact c (by omega)

/-- May a name have the byte there? -/
def nameB (l : List Int) (j : Nat) : Bool := letB (l.getD j 0) || (decide ((0 : Int) < j) && numB (l.getD j 0))

set_option maxHeartbeats 4000000 in
theorem name_cells (b o cap : Nat) (l : List Int) (w : World) (hl : l.length ≤ 9223372036854775807) (hy : Byt l) (hc : Row w b o l) :
    Calls Try.prog 27 #[.slice (some ⟨b, o, none⟩) l.length cap] w fun e w' => e = .returned (.int .i64 (stopN (nameB l) l.length)) ∧ w = w' := by
  have HC := Lib.hid hc
  have HY := Lib.hid hy
  clear hc hy
  obtain ⟨n, hn⟩ : ∃ n, n = l.length := ⟨_, rfl⟩
  rw [← hn] at hl ⊢
  have HN := Lib.hid hn
  clear hn
  go_enter Try.func27, Try.ntmps27
  go_wp2
  go_loop [3] (fun i => ∃ k : Nat, k ≤ n ∧ (∀ j, j < k → nameB l j = true) ∧ i = .int .i64 k) (fun i => n - (intOf i).toNat)
  case atStart => exact ⟨0, Nat.zero_le _, fun j hj => absurd hj (by omega), rfl⟩
  case round =>
    obtain ⟨k, hk, hd, rfl⟩ := hrel
    have HD := Lib.hid hd
    clear hd
    by_cases hlt : k < n
    · have hcell := HC.out k (by rw [← HN.out]; exact hlt)
      have hby := HY.out k
      obtain ⟨q, hq⟩ : ∃ q, q = nameB l k := ⟨_, rfl⟩
      have HQ : Hid (q = (letB (l.getD k 0) || (decide ((0 : Int) < k) && numB (l.getD k 0)))) := hq
      have HK := Lib.hid hq
      clear hq
      generalize l.getD k 0 = c at hcell hby HQ
      obtain ⟨y0, y1⟩ := hby
      have hk0 : (0 : Int) ≤ k := by omega
      have HI := Lib.hid (inName_any c k w y0 y1 hk0)
      rw [← HQ.out] at HI
      clear HQ
      cases q with
      | true =>
        go_wp2_with (go_at_call 38; refine HI.out.mono ?_; rintro e w' ⟨rfl, rfl⟩)
        go_round
        case rel =>
          refine ⟨k + 1, by omega, fun j hj => ?_, by go_num⟩
          by_cases hjk : j = k
          · rw [hjk]; exact HK.out.symm
          · exact HD.out j (by omega)
        case measure => simp [intOf]; omega
      | false =>
        have HS : Hid (stopN (nameB l) n = k) := (stopN_is _ _).same ⟨by omega, HD.out, fun _ => HK.out.symm⟩
        go_wp2_with (go_at_call 38; refine HI.out.mono ?_; rintro e w' ⟨rfl, rfl⟩)
        go_ret
        exact ⟨ret_int (by rw [HS.out]), rfl⟩
    · obtain rfl : k = n := by omega
      have HS : Hid (stopN (nameB l) k = k) := (stopN_is _ _).same ⟨by omega, HD.out, fun h => absurd h (by omega)⟩
      go_wp2
      go_ret
      exact ⟨ret_int (by rw [HS.out]), rfl⟩

theorem name_none (a : Option Addr) (cap : Nat) (w : World) :
    Calls Try.prog 27 #[.slice a 0 cap] w fun e w' => e = .returned (.int .i64 (stopN (nameB []) 0)) ∧ w = w' := by
  have HS : Hid (stopN (nameB []) 0 = 0) := rfl
  go_enter Try.func27, Try.ntmps27
  go_wp2
  go_loop [3] (fun i => i = .int .i64 0) (fun _ => 0)
  case atStart => rfl
  case round =>
    obtain rfl := hrel
    go_wp2
    go_ret
    exact ⟨ret_int (by rw [HS.out]; rfl), rfl⟩

set_option maxHeartbeats 4000000 in
theorem refName_cells (b o cap : Nat) (l : List Int) (w : World) (hl : l.length ≤ 9223372036854775807) (hy : Byt l) (hc : Row w b o l) :
    Calls Try.prog 28 #[.slice (some ⟨b, o, none⟩) l.length cap] w fun e w' => e = .returned (.int .i64 (stopN (nameB l) l.length)) ∧ w = w' := by
  have HC := Lib.hid hc
  have HY := Lib.hid hy
  clear hc hy
  obtain ⟨n, hn⟩ : ∃ n, n = l.length := ⟨_, rfl⟩
  rw [← hn] at hl ⊢
  have HN := Lib.hid hn
  clear hn
  go_enter Try.func28, Try.ntmps28
  go_wp2
  go_loop [3] (fun i => ∃ k : Nat, k ≤ n ∧ (∀ j, j < k → nameB l j = true) ∧ i = .int .i64 k) (fun i => n - (intOf i).toNat)
  case atStart => exact ⟨0, Nat.zero_le _, fun j hj => absurd hj (by omega), rfl⟩
  case round =>
    obtain ⟨k, hk, hd, rfl⟩ := hrel
    have HD := Lib.hid hd
    clear hd
    by_cases hlt : k < n
    · have hcell := HC.out k (by rw [← HN.out]; exact hlt)
      have hby := HY.out k
      have HQ : Hid (nameB l k = (letB (l.getD k 0) || (decide ((0 : Int) < k) && numB (l.getD k 0)))) := rfl
      generalize l.getD k 0 = c at hcell hby HQ
      obtain ⟨y0, y1⟩ := hby
      have HL := Lib.hid (letter_any c w y0 y1)
      have HP := Lib.hid (part_any c w y0 y1)
      have hn : nameB l k = true ∨ nameB l k = false := by cases nameB l k <;> simp
      have HNX := Lib.hid hn
      clear hn
      generalize letB c = lb at *
      generalize numB c = nb at *
      rcases Nat.eq_zero_or_pos k with rfl | hkp
      · simp only [Nat.add_zero] at hcell
        have h0n : (0 : Int) < n := by omega
        cases lb
        all_goals
          cases nb
          all_goals
            go_wp2_with (first | (go_at_call 39; refine HL.out.mono ?_; rintro e w' ⟨rfl, rfl⟩) | (go_at_call 40; refine HP.out.mono ?_; rintro e w' ⟨rfl, rfl⟩))
            all_goals
              first
                | (exfalso; omega)
                | (go_ret; exact ⟨ret_int (by rw [(stopN_is (nameB l) n).same ⟨by omega, HD.out, fun _ => by rw [HQ.out]; simp⟩]; rfl), rfl⟩)
                | (go_round
                   case rel =>
                     refine ⟨1, by omega, fun j hj => ?_, by go_num⟩
                     obtain rfl : j = 0 := by omega
                     rw [HQ.out]; simp
                   case measure => simp [intOf]; omega)
      · have hk1 : (0 : Int) < k := by omega
        cases lb
        all_goals
          cases nb
          all_goals
            go_wp2_with (first | (go_at_call 39; refine HL.out.mono ?_; rintro e w' ⟨rfl, rfl⟩) | (go_at_call 40; refine HP.out.mono ?_; rintro e w' ⟨rfl, rfl⟩))
            all_goals
              first
                | (exfalso; omega)
                | (go_ret; exact ⟨ret_int (by rw [(stopN_is (nameB l) n).same ⟨by omega, HD.out, fun _ => by rw [HQ.out]; simp⟩]), rfl⟩)
                | (go_round
                   case rel =>
                     refine ⟨k + 1, by omega, fun j hj => ?_, by go_num⟩
                     by_cases hjk : j = k
                     · rw [hjk, HQ.out]; simp; try omega
                     · exact HD.out j (by omega)
                   case measure => simp [intOf]; omega)
    · obtain rfl : k = n := by omega
      have HS : Hid (stopN (nameB l) k = k) := (stopN_is _ _).same ⟨by omega, HD.out, fun h => absurd h (by omega)⟩
      go_wp2
      go_ret
      exact ⟨ret_int (by rw [HS.out]), rfl⟩

theorem refName_none (a : Option Addr) (cap : Nat) (w : World) :
    Calls Try.prog 28 #[.slice a 0 cap] w fun e w' => e = .returned (.int .i64 (stopN (nameB []) 0)) ∧ w = w' := by
  have HS : Hid (stopN (nameB []) 0 = 0) := rfl
  go_enter Try.func28, Try.ntmps28
  go_wp2
  go_loop [3] (fun i => i = .int .i64 0) (fun _ => 0)
  case atStart => rfl
  case round =>
    obtain rfl := hrel
    go_wp2
    go_ret
    exact ⟨ret_int (by rw [HS.out]; rfl), rfl⟩

theorem names_any (v : Value) (l : List Int) (w : World) (hs : Sl w v l) :
    Calls Try.prog 27 #[v] w (fun e w' => e = .returned (.int .i64 (stopN (nameB l) l.length)) ∧ w = w') ∧ Calls Try.prog 28 #[v] w (fun e w' => e = .returned (.int .i64 (stopN (nameB l) l.length)) ∧ w = w') := by
  obtain ⟨hy, hl, ⟨rfl, a, cap, rfl⟩ | ⟨b, o, cap, rfl, hcl, hcm, hr⟩⟩ := hs
  · exact ⟨name_none a cap w, refName_none a cap w⟩
  · exact ⟨name_cells b o cap l w hl hy hr, refName_cells b o cap l w hl hy hr⟩

set_option maxHeartbeats 4000000 in
theorem lawNames_any (v : Value) (l : List Int) (w : World) (hs : Sl w v l) :
    Calls Try.prog 6 #[v] w fun e w' => e = .returned (.bool true) ∧ Below w.heap.size w w' := by
  have H1 := Lib.hid (names_any v l w hs).1
  have H2 := Lib.hid (names_any v l w hs).2
  generalize stopN (nameB l) l.length = x at *
  clear hs
  go_enter Try.func6, Try.ntmps6
  go_wp2_with fail
  refine H1.out.mono ?_; rintro e w' ⟨rfl, rfl⟩
  go_wp2_with fail
  refine H2.out.mono ?_; rintro e w' ⟨rfl, rfl⟩
  go_wp2_with fail
  refine (awake_any _).mono ?_; rintro e w' ⟨rfl, hb⟩
  go_wp2
  go_ret
  exact ⟨rfl, hb⟩

theorem scanNames_open {H : Type} {enc : TypeId × Value → H} {d0 : DataW H} {p0 : List MemPlace} {q : Prop} (W : World) (base : Nat) (v0 : Value)
    (h0 : DataW.Trod enc Try.prog W 0 (fun _ => true) true 22 v0 d0 p0) (k0 : Value.okWide Try.prog W .any base 22 v0) (_ : q) :
    Calls Try.prog 6 #[v0] W fun e W' => e = .returned (.bool true) ∧ Below W.heap.size W W' := by
  obtain ⟨l, hs⟩ := sl_of k0 h0
  exact lawNames_any v0 l W hs
end Go.Proofs.Ytnpjbpchnkobnaa
