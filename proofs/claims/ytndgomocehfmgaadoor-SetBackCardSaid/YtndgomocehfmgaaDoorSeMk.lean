/- The reference's Has, Bytes; is a byte in a text. -/
import Derived.Test.YtndgomocehfmgaaDoorSeRng
import Derived.Test.YtndgomocehfmgaaDoorSeRef
namespace Go.Proofs.YtndgomocehfmgaaDoor
open Go.RowKit

theorem own_mono {w : World} {B B' : Nat} {e : TypeId} {k : Nat} {v : Value} {n : Nat} {xs : List Value} (h : w.ownsRow B e k v n xs) (hb : B' ≤ B) : w.ownsRow B' e k v n xs := by
  obtain ⟨h1, h2 | ⟨g, cap, cur, rfl, h3, h4⟩⟩ := h
  · exact ⟨h1, .inl h2⟩
  · exact ⟨h1, .inr ⟨g, cap, cur, rfl, Nat.le_trans hb h3, h4⟩⟩
theorem owns_belowS {w w' : World} {B : Nat} {e : TypeId} {k : Nat} {v : Value} {n : Nat} {xs : List Value} (h : w.ownsRow B e k v n xs) (hb : Below w.heap.size w w') : w'.ownsRow B e k v n xs := by
  obtain ⟨h1, h2 | ⟨g, cap, cur, rfl, h3, h4, h5⟩⟩ := h
  · exact ⟨h1, .inl h2⟩
  · have hlt : g < w.heap.size := by
      rcases Nat.lt_or_ge g w.heap.size with h' | h'
      · exact h'
      · rw [Array.getElem?_eq_none h'] at h4; cases h4
    exact ⟨h1, .inr ⟨g, cap, cur, rfl, h3, by rw [hb.block g hlt]; exact h4, h5⟩⟩
set_option maxHeartbeats 2000000 in
theorem rhas_any (p : Nat → Bool) (b : Nat) (hb : b < 256) (w : World) :
    Calls Tryd.prog 63 #[SV p, .int .u8 b] w fun e w' => e = .returned (.bool (p b)) ∧ Below w.heap.size w w' := by
  obtain ⟨j, hj, h⟩ : ∃ j, j < 64 ∧ (b = j ∨ b = 64 + j ∨ b = 128 + j ∨ b = 192 + j) := ⟨b % 64, by omega, by omega⟩
  have e : ∀ i, b = 64 * i + j → bits .and .u64 ((sw p i : Int) / 2 ^ j) 1 = ((p b).toNat : Nat) := fun i hi => by rw [hi]; exact sw_bit p i j hj
  unfold SV
  rcases h with h | h | h | h
  · have hs := e 0 (by omega)
    have hq : (b : Int) / 64 = 0 := by omega
    have hr : (b : Int) % 64 = j := by omega
    clear e h
    cases hp : p b
    all_goals
      rw [hp] at hs
      simp only [Bool.toNat_true, Bool.toNat_false] at hs
      clear hp
      generalize sw p 0 = x0 at *
      generalize sw p 1 = x1 at *
      generalize sw p 2 = x2 at *
      generalize sw p 3 = x3 at *
      go_enter Tryd.func63, Tryd.ntmps63
      go_wp2
      go_ret
      exact ⟨rfl, (Below.refl _ _).alloc (Nat.le_refl _) _⟩
  · have hs := e 1 (by omega)
    have hq : (b : Int) / 64 = 1 := by omega
    have hr : (b : Int) % 64 = j := by omega
    clear e h
    cases hp : p b
    all_goals
      rw [hp] at hs
      simp only [Bool.toNat_true, Bool.toNat_false] at hs
      clear hp
      generalize sw p 0 = x0 at *
      generalize sw p 1 = x1 at *
      generalize sw p 2 = x2 at *
      generalize sw p 3 = x3 at *
      go_enter Tryd.func63, Tryd.ntmps63
      go_wp2
      go_ret
      exact ⟨rfl, (Below.refl _ _).alloc (Nat.le_refl _) _⟩
  · have hs := e 2 (by omega)
    have hq : (b : Int) / 64 = 2 := by omega
    have hr : (b : Int) % 64 = j := by omega
    clear e h
    cases hp : p b
    all_goals
      rw [hp] at hs
      simp only [Bool.toNat_true, Bool.toNat_false] at hs
      clear hp
      generalize sw p 0 = x0 at *
      generalize sw p 1 = x1 at *
      generalize sw p 2 = x2 at *
      generalize sw p 3 = x3 at *
      go_enter Tryd.func63, Tryd.ntmps63
      go_wp2
      go_ret
      exact ⟨rfl, (Below.refl _ _).alloc (Nat.le_refl _) _⟩
  · have hs := e 3 (by omega)
    have hq : (b : Int) / 64 = 3 := by omega
    have hr : (b : Int) % 64 = j := by omega
    clear e h
    cases hp : p b
    all_goals
      rw [hp] at hs
      simp only [Bool.toNat_true, Bool.toNat_false] at hs
      clear hp
      generalize sw p 0 = x0 at *
      generalize sw p 1 = x1 at *
      generalize sw p 2 = x2 at *
      generalize sw p 3 = x3 at *
      go_enter Tryd.func63, Tryd.ntmps63
      go_wp2
      go_ret
      exact ⟨rfl, (Below.refl _ _).alloc (Nat.le_refl _) _⟩

theorem byL_no (p : Nat → Bool) (k : Nat) (h : p k = false) : byL p (k + 1) = byL p k := byL_skip p k 1 fun j hj => by rw [show k + j = k by omega]; exact h
set_option maxRecDepth 100000 in
set_option maxHeartbeats 8000000 in
theorem rbytes_any (p : Nat → Bool) (w : World) :
    Calls Tryd.prog 34 #[SV p] w fun e w' => ∃ v, e = .returned v ∧ w'.ownsRow w.heap.size 5 1 v (byL p 256).length ((byL p 256).map (Value.int .u8)) ∧ Below w.heap.size w w' := by
  obtain ⟨i0, hi, hz0, hz1, hz2⟩ := info_parts byte_row
  unfold SV
  go_enter Tryd.func34, Tryd.ntmps34
  go_wp2_with fail
  go_loopw [3, 5] (fun v x wr => ∃ k : Nat, k ≤ 256 ∧ x = .int .i64 k ∧ wr.ownsRow (w.heap.size + 1) 5 1 v (byL p k).length ((byL p k).map (Value.int .u8)) ∧ Below (w.heap.size + 1) (w.alloc (.cells #[.int .u64 (sw p 0 : Nat), .int .u64 (sw p 1 : Nat), .int .u64 (sw p 2 : Nat), .int .u64 (sw p 3 : Nat)] 24)) wr) (fun _ x _ => 256 - (intOf x).toNat)
  case atStart => exact ⟨0, by omega, rfl, World.ownsRow_nil _ _ _ _, Below.refl _ _⟩
  case round =>
    obtain ⟨k, hk, rfl, hown, hbel⟩ := hrel
    have hg := (hbel.block w.heap.size (Nat.lt_succ_self _)).trans (alloc_last w (.cells #[.int .u64 (sw p 0 : Nat), .int .u64 (sw p 1 : Nat), .int .u64 (sw p 2 : Nat), .int .u64 (sw p 3 : Nat)] 24))
    obtain ⟨⟨c0, c1, c2, c3⟩, _, hzb⟩ := cells4 hg
    have HOW := Lib.hid hown
    have HB := Lib.hid hbel
    have hsz := hbel.size
    simp only [World.size_alloc] at hsz
    have hbl := byL_len p k
    clear hown hbel hg
    by_cases hlt : k < 256
    · have hI : (k : Int) < 256 := by omega
      have hw2 : IntKind.i64.wrap ((k : Int) + 1) = (k : Int) + 1 := by rw [IntKind.wrap_i64]; omega
      have hw3 : IntKind.u8.wrap (k : Int) = (k : Int) := by rw [IntKind.wrap_u8]; omega
      have HH : ∀ w, Hid (Calls Tryd.prog 63 #[.agg #[.int .u64 (sw p 0 : Nat), .int .u64 (sw p 1 : Nat), .int .u64 (sw p 2 : Nat), .int .u64 (sw p 3 : Nat)], .int .u8 k] w fun e w' => e = .returned (.bool (p k)) ∧ Below w.heap.size w w') := fun w => Lib.hid (rhas_any p k hlt w)
      go_wp2_with fail
      refine (HH _).out.mono ?_
      rintro e w1 ⟨rfl, hb1⟩
      have HB1 : Hid (Below (w.heap.size + 1) (w.alloc (.cells #[.int .u64 (sw p 0 : Nat), .int .u64 (sw p 1 : Nat), .int .u64 (sw p 2 : Nat), .int .u64 (sw p 3 : Nat)] 24)) w1) := Lib.hid (below_thn HB.out (by simp) hb1)
      have HO1 := Lib.hid (owns_belowS HOW.out hb1)
      have hsz1 := hb1.size
      clear hb1 HOW HB
      cases hp : p k
      · have hy := byL_no p k hp
        go_wp2_with fail
        exact ⟨⟨k + 1, by omega, by simp, by rw [hy]; exact HO1.out, HB1.out⟩, by simp [intOf]; omega⟩
      · have HY := Lib.hid (byL_step p k hp)
        go_wp2_with (at_builtin; refine wpList_append_own _ rfl _ _ 28 rfl (w.heap.size + 1) 5 i0 (.int .u8 0) 1 1 Tryd.underlying28 hi hz0 hz1 hz2 rfl (by decide) _ _ _ rfl (HO1.out.alloc _) ⟨w1.heap.size, 0, none⟩ 1 1 [.int .u8 (k : Int)] rfl rfl ?c1 ?c2 ?c3 ?c4 ?c5 ?_)
        case c1 =>
          intro j u hj
          match j, hj with
          | 0, hj => simp at hj; subst hj; simp [Addr.add]
        case c2 => intro u hu; simp at hu; subst hu; rfl
        case c3 => unfold maxLen; omega
        case c4 => omega
        case c5 => simp; omega
        intro v' w4 hown' hgrow _
        have HN : Hid (w4.ownsRow (w.heap.size + 1) 5 1 v' (byL p (k + 1)).length ((byL p (k + 1)).map (Value.int .u8))) := Lib.hid (by rw [HY.out]; simpa using hown')
        have HG : Hid (Below (w.heap.size + 1) (w.alloc (.cells #[.int .u64 (sw p 0 : Nat), .int .u64 (sw p 1 : Nat), .int .u64 (sw p 2 : Nat), .int .u64 (sw p 3 : Nat)] 24)) w4) := Lib.hid ((HB1.out.alloc (by omega) _).grown hgrow (by simp; omega) (fun k hk => (HO1.out.lt k hk).1))
        clear hown' hgrow
        go_wp2
        exact ⟨⟨k + 1, by omega, by simp, HN.out, HG.out⟩, by simp [intOf]; omega⟩
    · obtain rfl : k = 256 := by omega
      go_wp2
      go_ret
      exact ⟨_, rfl, own_mono HOW.out (Nat.le_succ _), ((Below.refl _ _).alloc (Nat.le_refl _) _).trans (HB.out.mono (Nat.le_succ _))⟩

theorem bys_at (s : ByteArray) (k : Nat) (h : k < s.size) : (bys s)[k]? = some (s[k].toNat : Int) := by
  have := bys_getD s k h
  rw [List.getD, List.getElem?_eq_getElem (by rw [bys_length]; exact h)] at this
  rw [List.getElem?_eq_getElem (by rw [bys_length]; exact h)]
  simpa using this
end Go.Proofs.YtndgomocehfmgaaDoor
