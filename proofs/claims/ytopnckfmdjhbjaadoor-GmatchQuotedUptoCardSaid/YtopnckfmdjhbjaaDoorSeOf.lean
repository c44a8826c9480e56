/- The contract of Of. -/
import Derived.Test.YtopnckfmdjhbjaaDoorSeUni
namespace Go.Proofs.YtopnckfmdjhbjaaDoor
open Go.RowKit

/-- Is the byte among those? -/
def mem (l : List Int) (c : Nat) : Bool := decide ((c : Int) ∈ l)
/-- With one more byte. -/
def plus (p : Nat → Bool) (b : Nat) (c : Nat) : Bool := p c || c == b
theorem sw_plus (p : Nat → Bool) (i j : Nat) (hj : j < 64) : bits .or .u64 (sw p i : Int) ((2 : Int) ^ j) = (sw (plus p (64 * i + j)) i : Nat) := by
  have h := wd_or (fun c => p (64 * i + c)) (fun c => c == j)
  rw [← wd_one j hj] at h
  have e : ((2 : Int) ^ j) = ((2 ^ j : Nat) : Int) := by simp
  rw [e]
  refine h.trans (congrArg (Nat.cast (R := Int)) (wd_congr fun c _ => ?_))
  unfold plus
  congr 1
  rw [Bool.eq_iff_iff]
  simp
theorem sw_plus_other (p : Nat → Bool) (b i : Nat) (h : b / 64 ≠ i) : sw (plus p b) i = sw p i :=
  wd_congr fun j hj => by
    unfold plus
    have : ((64 * i + j) == b) = false := by simp; omega
    rw [this, Bool.or_false]
theorem pow_wrap (j : Nat) (hj : j < 64) : IntKind.u64.wrap ((2 : Int) ^ j) = (2 : Int) ^ j := by
  have h : 2 ^ j < 2 ^ 64 := Nat.pow_lt_pow_right (by decide) hj
  have e : ((2 : Int) ^ j) = ((2 ^ j : Nat) : Int) := by simp
  rw [e, IntKind.wrap_u64]
  generalize 2 ^ j = y at *
  omega

theorem row4_plus {w : World} {b : Nat} {p : Nat → Bool} (h : Row4 w b 0 p) (i j : Nat) (hj : j < 64) (hi : i < 4) :
    Row4 (w.setCell ⟨b, i, none⟩ (.int .u64 (sw (plus p (64 * i + j)) i : Nat))) b 0 (plus p (64 * i + j)) := by
  obtain ⟨h0, h1, h2, h3⟩ := h
  have o : ∀ k, k ≠ i → sw (plus p (64 * i + j)) k = sw p k := fun k hk => sw_plus_other p _ k (by omega)
  have g : ∀ k v, k < 4 → w.cell? ⟨b, k, none⟩ = some v → v = .int .u64 (sw p k : Nat) → (w.setCell ⟨b, i, none⟩ (.int .u64 (sw (plus p (64 * i + j)) i : Nat))).cell? ⟨b, k, none⟩ = some (.int .u64 (sw (plus p (64 * i + j)) k : Nat)) := by
    intro k v _ hc hv
    by_cases e : k = i
    · subst e
      exact World.cell?_setCell_same w _ _ hc
    · rw [World.cell?_setCell_other _ _ _ _ (by simp), hc, hv, o k e]
  exact ⟨g 0 _ (by omega) h0 rfl, g 1 _ (by omega) h1 rfl, g 2 _ (by omega) h2 rfl, g 3 _ (by omega) h3 rfl⟩
theorem mem_snoc (s : ByteArray) (k : Nat) (h : k < s.size) : mem ((bys s).take (k + 1)) = plus (mem ((bys s).take k)) s[k].toNat := by
  funext c
  have e : (bys s).take (k + 1) = (bys s).take k ++ [(s[k].toNat : Int)] := by
    rw [List.take_succ_eq_append_getElem (by rw [bys_length]; exact h)]
    congr 2
    have := bys_getD s k h
    rwa [List.getD_eq_getElem?_getD, List.getElem?_eq_getElem (by rw [bys_length]; exact h), Option.getD_some] at this
  unfold mem plus
  rw [e, Bool.eq_iff_iff]
  simp [Int.natCast_inj]

set_option maxRecDepth 100000 in
set_option maxHeartbeats 16000000 in
theorem of_any (s : ByteArray) (w : World) (hs : s.size ≤ 9223372036854775807) :
    Calls Tryd.prog 49 #[.string s] w fun e w' => e = .returned (SV (mem (bys s))) ∧ Below w.heap.size w w' := by
  have HS0 : Hid (Row4 ((w.alloc (.cells #[.int .u64 0, .int .u64 0, .int .u64 0, .int .u64 0] 53)).alloc (.cells #[.int .u64 0, .int .u64 0, .int .u64 0, .int .u64 0] 53)) (w.heap.size + 1) 0 (mem ((bys s).take 0))) := by
    have e : mem ((bys s).take 0) = fun _ => false := by funext c; simp [mem]
    have hz : (w.alloc (.cells #[.int .u64 0, .int .u64 0, .int .u64 0, .int .u64 0] 53)).heap.size = w.heap.size + 1 := by simp
    rw [e, ← hz]
    refine ⟨?_, ?_, ?_, ?_⟩ <;> rw [sw_zero] <;> simp
  have HF0 : Hid (∀ j, ((w.alloc (.cells #[.int .u64 0, .int .u64 0, .int .u64 0, .int .u64 0] 53)).alloc (.cells #[.int .u64 0, .int .u64 0, .int .u64 0, .int .u64 0] 53)).frozen? ⟨w.heap.size + 1, j, none⟩ = false) := by
    have hz : (w.alloc (.cells #[.int .u64 0, .int .u64 0, .int .u64 0, .int .u64 0] 53)).heap.size = w.heap.size + 1 := by simp
    rw [← hz]
    exact Lib.hid fun j => by simp
  go_enter Tryd.func49, Tryd.ntmps49
  go_wp2
  go_loopw [4, 7] (fun _ i wr => ∃ k : Nat, k ≤ s.size ∧ i = .int .i64 k ∧ Row4 wr (w.heap.size + 1) 0 (mem ((bys s).take k)) ∧ Below (w.heap.size + 1) (w.alloc (.cells #[.int .u64 0, .int .u64 0, .int .u64 0, .int .u64 0] 53)) wr ∧ w.heap.size + 1 < wr.heap.size ∧ (∀ j, wr.frozen? ⟨w.heap.size + 1, j, none⟩ = false)) (fun _ i _ => s.size - (intOf i).toNat)
  case atStart => exact ⟨0, Nat.zero_le _, rfl, HS0.out, (Below.refl _ _).alloc (by simp) _, by simp, HF0.out⟩
  case round =>
    obtain ⟨k, hk, rfl, hrow, hbel, hz, hfz⟩ := hrel
    have HR := Lib.hid hrow
    have HF := Lib.hid hfz
    have HB := Lib.hid hbel
    have f0 := hfz 0
    have f1 := hfz 1
    have f2 := hfz 2
    have f3 := hfz 3
    obtain ⟨r0, r1, r2, r3⟩ := hrow
    clear hfz hbel
    by_cases hlt : k < s.size
    · have HM : Hid (mem ((bys s).take (k + 1)) = plus (mem ((bys s).take k)) s[k].toNat) := Lib.hid (mem_snoc s k hlt)
      have hb256 : s[k].toNat < 256 := UInt8.toNat_lt _
      obtain ⟨j, hj, h⟩ : ∃ j, j < 64 ∧ (s[k].toNat = 64 * 0 + j ∨ s[k].toNat = 64 * 1 + j ∨ s[k].toNat = 64 * 2 + j ∨ s[k].toNat = 64 * 3 + j) := ⟨s[k].toNat % 64, by omega, by omega⟩
      have hpw := pow_wrap j hj
      rcases h with h | h | h | h
      · have hq : ((s[k].toNat : Nat) : Int) / 64 = 0 := by omega
        have hr : ((s[k].toNat : Nat) : Int) % 64 = j := by omega
        have hw : bits .or .u64 (sw (mem ((bys s).take k)) 0 : Int) ((2 : Int) ^ j) = (sw (plus (mem ((bys s).take k)) (j)) 0 : Nat) := by have := sw_plus (mem ((bys s).take k)) 0 j hj; simpa only [Nat.mul_zero, Nat.zero_add] using this
        have HN : Hid (∀ w', Row4 w' (w.heap.size + 1) 0 (mem ((bys s).take k)) → Row4 (w'.setCell ⟨w.heap.size + 1, 0, none⟩ (.int .u64 (sw (plus (mem ((bys s).take k)) (j)) 0 : Nat))) (w.heap.size + 1) 0 (mem ((bys s).take (k + 1)))) := Lib.hid fun w' h' => by
          have := row4_plus h' 0 j hj (by omega)
          rw [HM.out, h]
          simpa only [Nat.mul_zero, Nat.zero_add] using this
        clear h HM
        go_wp2
        go_region
        all_goals
          go_wp2
          go_roundw
          case rel => exact ⟨k + 1, by omega, by go_num, HN.out _ HR.out, (HB.out.drew).setCell (by simp) _, by simpa using hz, fun j => by simpa using HF.out j⟩
          case measure => simp [intOf]; omega
      · have hq : ((s[k].toNat : Nat) : Int) / 64 = 1 := by omega
        have hr : ((s[k].toNat : Nat) : Int) % 64 = j := by omega
        have hw : bits .or .u64 (sw (mem ((bys s).take k)) 1 : Int) ((2 : Int) ^ j) = (sw (plus (mem ((bys s).take k)) (64 * 1 + j)) 1 : Nat) := by have := sw_plus (mem ((bys s).take k)) 1 j hj; simpa only [Nat.mul_zero, Nat.zero_add] using this
        have HN : Hid (∀ w', Row4 w' (w.heap.size + 1) 0 (mem ((bys s).take k)) → Row4 (w'.setCell ⟨w.heap.size + 1, 1, none⟩ (.int .u64 (sw (plus (mem ((bys s).take k)) (64 * 1 + j)) 1 : Nat))) (w.heap.size + 1) 0 (mem ((bys s).take (k + 1)))) := Lib.hid fun w' h' => by
          have := row4_plus h' 1 j hj (by omega)
          rw [HM.out, h]
          simpa only [Nat.mul_zero, Nat.zero_add] using this
        clear h HM
        go_wp2
        go_region
        all_goals
          go_wp2
          go_roundw
          case rel => exact ⟨k + 1, by omega, by go_num, HN.out _ HR.out, (HB.out.drew).setCell (by simp) _, by simpa using hz, fun j => by simpa using HF.out j⟩
          case measure => simp [intOf]; omega
      · have hq : ((s[k].toNat : Nat) : Int) / 64 = 2 := by omega
        have hr : ((s[k].toNat : Nat) : Int) % 64 = j := by omega
        have hw : bits .or .u64 (sw (mem ((bys s).take k)) 2 : Int) ((2 : Int) ^ j) = (sw (plus (mem ((bys s).take k)) (64 * 2 + j)) 2 : Nat) := by have := sw_plus (mem ((bys s).take k)) 2 j hj; simpa only [Nat.mul_zero, Nat.zero_add] using this
        have HN : Hid (∀ w', Row4 w' (w.heap.size + 1) 0 (mem ((bys s).take k)) → Row4 (w'.setCell ⟨w.heap.size + 1, 2, none⟩ (.int .u64 (sw (plus (mem ((bys s).take k)) (64 * 2 + j)) 2 : Nat))) (w.heap.size + 1) 0 (mem ((bys s).take (k + 1)))) := Lib.hid fun w' h' => by
          have := row4_plus h' 2 j hj (by omega)
          rw [HM.out, h]
          simpa only [Nat.mul_zero, Nat.zero_add] using this
        clear h HM
        go_wp2
        go_region
        all_goals
          go_wp2
          go_roundw
          case rel => exact ⟨k + 1, by omega, by go_num, HN.out _ HR.out, (HB.out.drew).setCell (by simp) _, by simpa using hz, fun j => by simpa using HF.out j⟩
          case measure => simp [intOf]; omega
      · have hq : ((s[k].toNat : Nat) : Int) / 64 = 3 := by omega
        have hr : ((s[k].toNat : Nat) : Int) % 64 = j := by omega
        have hw : bits .or .u64 (sw (mem ((bys s).take k)) 3 : Int) ((2 : Int) ^ j) = (sw (plus (mem ((bys s).take k)) (64 * 3 + j)) 3 : Nat) := by have := sw_plus (mem ((bys s).take k)) 3 j hj; simpa only [Nat.mul_zero, Nat.zero_add] using this
        have HN : Hid (∀ w', Row4 w' (w.heap.size + 1) 0 (mem ((bys s).take k)) → Row4 (w'.setCell ⟨w.heap.size + 1, 3, none⟩ (.int .u64 (sw (plus (mem ((bys s).take k)) (64 * 3 + j)) 3 : Nat))) (w.heap.size + 1) 0 (mem ((bys s).take (k + 1)))) := Lib.hid fun w' h' => by
          have := row4_plus h' 3 j hj (by omega)
          rw [HM.out, h]
          simpa only [Nat.mul_zero, Nat.zero_add] using this
        clear h HM
        go_wp2
        go_region
        all_goals
          go_wp2
          go_roundw
          case rel => exact ⟨k + 1, by omega, by go_num, HN.out _ HR.out, (HB.out.drew).setCell (by simp) _, by simpa using hz, fun j => by simpa using HF.out j⟩
          case measure => simp [intOf]; omega
    · have HK : Hid (mem ((bys s).take k) = mem (bys s)) := Lib.hid (by rw [List.take_of_length_le (by rw [bys_length]; omega)])
      obtain ⟨c0, c1, c2, c3, g0, g1, g2, g3, hz'⟩ := res_facts HB.out (Nat.lt_succ_self _)
      go_wp2
      exact bodyPost_ret (by simp [results, Tryd.results49, go_sem, c0, c1, c2, c3]; rfl) rfl ⟨by rw [HK.out]; rfl, res_below HB.out _ _ _ _⟩
end Go.Proofs.YtopnckfmdjhbjaaDoor
