/- Rows of names in memory; the contract of the reference's Strings. -/
import Derived.Test.YtoodpajbefffhaaDoorSlcP
import Derived.Test.YtoodpajbefffhaaDoorGmM3
import Derived.BigQuiet
namespace Go.Proofs.YtoodpajbefffhaaDoor
open Go.RowKit

def nmV (x : List UInt8) : Value := .string ⟨x.toArray⟩
/-- A slice of names. -/
def Ss (w : World) (v : Value) (L : List (List UInt8)) : Prop :=
  (L = [] ∧ ∃ a cap, v = .slice a 0 cap) ∨ ∃ b o cap, v = .slice (some ⟨b, o, none⟩) L.length cap ∧ ∀ j x, L[j]? = some x → w.cell? ⟨b, o + j, none⟩ = some (nmV x)
theorem Ss.below {w w' : World} {v : Value} {L : List (List UInt8)} (h : Ss w v L) (hb : Below w.heap.size w w') : Ss w' v L := by
  rcases h with h | ⟨b, o, cap, hv, hc⟩
  · exact Or.inl h
  · refine Or.inr ⟨b, o, cap, hv, fun j x hj => ?_⟩
    have h1 := hc j x hj
    rw [hb.cell (p := ⟨b, o + j, none⟩) (World.block_lt_of_cell? _ _ h1)]
    exact h1
theorem Ss.shp {w : World} {v : Value} {L : List (List UInt8)} (h : Ss w v L) : ∃ a cap, v = .slice a L.length cap := by
  rcases h with ⟨rfl, a, cap, rfl⟩ | ⟨b, o, cap, rfl, _⟩
  · exact ⟨a, cap, rfl⟩
  · exact ⟨_, cap, rfl⟩
theorem Ss.at {w : World} {a : Option Addr} {n cap : Nat} {L : List (List UInt8)} (h : Ss w (.slice a n cap) L) {k : Nat} (hk : k < L.length) : ∃ b o x, a = some ⟨b, o, none⟩ ∧ L[k]? = some x ∧ w.cell? ⟨b, o + k, none⟩ = some (nmV x) := by
  rcases h with ⟨rfl, _⟩ | ⟨b, o, cap', hv, hc⟩
  · simp at hk
  · simp only [Value.slice.injEq] at hv
    exact ⟨b, o, L[k], hv.1, List.getElem?_eq_getElem hk, hc k _ (List.getElem?_eq_getElem hk)⟩

set_option maxRecDepth 100000 in
set_option maxHeartbeats 8000000 in
theorem rstrings_any (va vb : Value) (L : List (List UInt8)) (w : World) (ha : Ss w va L) (hb : Ss w vb L) (hl : L.length ≤ 1048576) :
    Calls Tryd.prog 8 #[va, vb] w fun x w' => x = .returned (.bool true) ∧ Below w.heap.size w w' := by
  obtain ⟨av, acap, rfl⟩ := ha.shp
  obtain ⟨bv, bcap, rfl⟩ := hb.shp
  have HA := Lib.hid ha
  have HB := Lib.hid hb
  obtain ⟨n, hn⟩ : ∃ n, n = L.length := ⟨_, rfl⟩
  have HN := Lib.hid hn
  rw [← hn] at hl HA HB ⊢
  clear ha hb hn
  go_enter Tryd.func8, Tryd.ntmps8
  go_wp2
  go_loopw [13] (fun i X => ∃ k, i = .int .i64 (k : Nat) ∧ k ≤ n ∧ Below w.heap.size w X) (fun i _ => n - (intOf i).toNat)
  case atStart => exact ⟨0, rfl, Nat.zero_le _, Below.refl _ _⟩
  case round =>
    obtain ⟨k, rfl, hk, hbl⟩ := hrel
    have HBL := Lib.hid hbl
    clear hbl
    by_cases hlt : k < n
    · have hltL : k < L.length := by rw [← HN.out]; exact hlt
      obtain ⟨b1, o1, x, rfl, hx, hc1⟩ := (HA.out.below HBL.out).at hltL
      obtain ⟨b2, o2, y, rfl, hy, hc2⟩ := (HB.out.below HBL.out).at hltL
      obtain rfl : x = y := by rw [hx] at hy; exact Option.some.inj hy
      have z1 := World.block_lt_of_cell? _ _ hc1
      have z2 := World.block_lt_of_cell? _ _ hc2
      have hkI : (k : Int) < (n : Int) := by omega
      unfold nmV at hc1 hc2
      generalize (⟨x.toArray⟩ : ByteArray) = s at hc1 hc2
      clear hx hy
      go_wp2_with fail
      go_quiet (fail)
      go_wp2_with fail
      go_roundw
      case rel => exact ⟨k + 1, by go_num, by omega, below_drewN HBL.out _⟩
      case measure => simp [intOf]; omega
    · have hke : k = n := by omega
      subst hke
      go_wp2
      go_ret
      exact ⟨rfl, HBL.out⟩
end Go.Proofs.YtoodpajbefffhaaDoor
