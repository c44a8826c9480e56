/- KRpa: several texts in one (kmerge.py). -/
import Derived.Test.YtoodpajbefffhaaDoorRfD
import Derived.Test.YtoodpajbefffhaaDoorRfDt
import Derived.Test.YtoodpajbefffhaaDoorKShf
import Derived.Test.YtoodpajbefffhaaDoorGlM2
import Derived.Test.YtoodpajbefffhaaDoorGlRd
/- The contract of the reference's Bracket, of any slice (gen_rfe.py). -/
namespace Go.Proofs.YtoodpajbefffhaaDoor
open Go.RowKit

set_option maxRecDepth 100000 in
set_option maxHeartbeats 16000000 in
theorem rbrk_end (ad : Option Addr) (n cap : Nat) (lg : Int) (w : World) (hlg : lg = 2 ∨ lg = 3 ∨ lg = 4) :
    Calls Tryd.prog 11 #[.slice ad n cap, .int .i64 n, .int .i64 lg] w fun e w' => RbPost (.bad 8 n) lg e ∧ Below w.heap.size w w' := by
  have HF : ∀ (c p : Int) X, Hid (Calls Tryd.prog 10 #[.int .i64 c, .int .i64 p, .int .i64 lg] X fun e w' => e = .returned (.agg #[.int .i64 c, .int .i64 p, .int .i64 lg]) ∧ Below X.heap.size X w') := fun c p X => Lib.hid (rf_any c p lg X)
  have hkN : decide ((n : Int) < 0) = false := by simp
  have HB0 := Lib.hid (RbI.start w)
  rcases hlg with rfl | rfl | rfl
  · go_enter Tryd.func11, Tryd.ntmps11
    go_wp2_with fail
    go_loopw [10, 12] (fun i f X => i = .int .i64 (n : Nat) ∧ f = .bool true ∧ Hid (RbI w noP X)) (fun _ _ _ => 0)
    case atStart => exact ⟨rfl, rfl, HB0⟩
    case round =>
      obtain ⟨rfl, rfl, HB⟩ := hrel
      go_wp2_with fail
      refine (HF _ _ _).out.mono ?_
      rintro e w1 ⟨rfl, hbw1⟩
      have HEw1 := Lib.hid (HB.out.nxt hbw1)
      clear hbw1
      obtain ⟨⟨y60, y61, y62, y63⟩, ⟨f60, f61, f62, f63⟩, z6⟩ := cells4 HEw1.out.b6
      have z8 : w.heap.size + 1 < w1.heap.size := lt_blkB HEw1.out.b8
      have y80 : w1.cell? ⟨w.heap.size + 1, 0, none⟩ = some (.int .i64 0) := by rw [Lib.cell_of_heap HEw1.out.b8]; rfl
      have y81 : w1.cell? ⟨w.heap.size + 1, 1, none⟩ = some (.int .i64 0) := by rw [Lib.cell_of_heap HEw1.out.b8]; rfl
      have y82 : w1.cell? ⟨w.heap.size + 1, 2, none⟩ = some (.int .i64 0) := by rw [Lib.cell_of_heap HEw1.out.b8]; rfl
      have f80 : w1.frozen? ⟨w.heap.size + 1, 0, none⟩ = false := Lib.frozen_of_heap HEw1.out.b8 0
      have f81 : w1.frozen? ⟨w.heap.size + 1, 1, none⟩ = false := Lib.frozen_of_heap HEw1.out.b8 1
      have f82 : w1.frozen? ⟨w.heap.size + 1, 2, none⟩ = false := Lib.frozen_of_heap HEw1.out.b8 2
      go_wp2
      refine bodyPost_ret (by first | (simp [results, Tryd.results11, go_sem, y60, y61, y62, y63, y80, y81, y82]; done) | (simp [results, Tryd.results11, go_sem, y60, y61, y62, y63, y80, y81, y82]; rfl)) rfl ⟨rfl, ?_⟩
      exact ((((((HEw1.out.bel.setCell (Nat.le_refl _) _).setCell (Nat.le_refl _) _).setCell (Nat.le_refl _) _).setCell (Nat.le_refl _) _).setCell (Nat.le_succ _) _).setCell (Nat.le_succ _) _).setCell (Nat.le_succ _) _
  · go_enter Tryd.func11, Tryd.ntmps11
    go_wp2_with fail
    go_loopw [10, 12] (fun i f X => i = .int .i64 (n : Nat) ∧ f = .bool true ∧ Hid (RbI w noP X)) (fun _ _ _ => 0)
    case atStart => exact ⟨rfl, rfl, HB0⟩
    case round =>
      obtain ⟨rfl, rfl, HB⟩ := hrel
      go_wp2_with fail
      refine (HF _ _ _).out.mono ?_
      rintro e w1 ⟨rfl, hbw1⟩
      have HEw1 := Lib.hid (HB.out.nxt hbw1)
      clear hbw1
      obtain ⟨⟨y60, y61, y62, y63⟩, ⟨f60, f61, f62, f63⟩, z6⟩ := cells4 HEw1.out.b6
      have z8 : w.heap.size + 1 < w1.heap.size := lt_blkB HEw1.out.b8
      have y80 : w1.cell? ⟨w.heap.size + 1, 0, none⟩ = some (.int .i64 0) := by rw [Lib.cell_of_heap HEw1.out.b8]; rfl
      have y81 : w1.cell? ⟨w.heap.size + 1, 1, none⟩ = some (.int .i64 0) := by rw [Lib.cell_of_heap HEw1.out.b8]; rfl
      have y82 : w1.cell? ⟨w.heap.size + 1, 2, none⟩ = some (.int .i64 0) := by rw [Lib.cell_of_heap HEw1.out.b8]; rfl
      have f80 : w1.frozen? ⟨w.heap.size + 1, 0, none⟩ = false := Lib.frozen_of_heap HEw1.out.b8 0
      have f81 : w1.frozen? ⟨w.heap.size + 1, 1, none⟩ = false := Lib.frozen_of_heap HEw1.out.b8 1
      have f82 : w1.frozen? ⟨w.heap.size + 1, 2, none⟩ = false := Lib.frozen_of_heap HEw1.out.b8 2
      go_wp2
      refine bodyPost_ret (by first | (simp [results, Tryd.results11, go_sem, y60, y61, y62, y63, y80, y81, y82]; done) | (simp [results, Tryd.results11, go_sem, y60, y61, y62, y63, y80, y81, y82]; rfl)) rfl ⟨rfl, ?_⟩
      exact ((((((HEw1.out.bel.setCell (Nat.le_refl _) _).setCell (Nat.le_refl _) _).setCell (Nat.le_refl _) _).setCell (Nat.le_refl _) _).setCell (Nat.le_succ _) _).setCell (Nat.le_succ _) _).setCell (Nat.le_succ _) _
  · go_enter Tryd.func11, Tryd.ntmps11
    go_wp2_with fail
    go_loopw [10, 12] (fun i f X => i = .int .i64 (n : Nat) ∧ f = .bool true ∧ Hid (RbI w noP X)) (fun _ _ _ => 0)
    case atStart => exact ⟨rfl, rfl, HB0⟩
    case round =>
      obtain ⟨rfl, rfl, HB⟩ := hrel
      go_wp2_with fail
      refine (HF _ _ _).out.mono ?_
      rintro e w1 ⟨rfl, hbw1⟩
      have HEw1 := Lib.hid (HB.out.nxt hbw1)
      clear hbw1
      obtain ⟨⟨y60, y61, y62, y63⟩, ⟨f60, f61, f62, f63⟩, z6⟩ := cells4 HEw1.out.b6
      have z8 : w.heap.size + 1 < w1.heap.size := lt_blkB HEw1.out.b8
      have y80 : w1.cell? ⟨w.heap.size + 1, 0, none⟩ = some (.int .i64 0) := by rw [Lib.cell_of_heap HEw1.out.b8]; rfl
      have y81 : w1.cell? ⟨w.heap.size + 1, 1, none⟩ = some (.int .i64 0) := by rw [Lib.cell_of_heap HEw1.out.b8]; rfl
      have y82 : w1.cell? ⟨w.heap.size + 1, 2, none⟩ = some (.int .i64 0) := by rw [Lib.cell_of_heap HEw1.out.b8]; rfl
      have f80 : w1.frozen? ⟨w.heap.size + 1, 0, none⟩ = false := Lib.frozen_of_heap HEw1.out.b8 0
      have f81 : w1.frozen? ⟨w.heap.size + 1, 1, none⟩ = false := Lib.frozen_of_heap HEw1.out.b8 1
      have f82 : w1.frozen? ⟨w.heap.size + 1, 2, none⟩ = false := Lib.frozen_of_heap HEw1.out.b8 2
      go_wp2
      refine bodyPost_ret (by first | (simp [results, Tryd.results11, go_sem, y60, y61, y62, y63, y80, y81, y82]; done) | (simp [results, Tryd.results11, go_sem, y60, y61, y62, y63, y80, y81, y82]; rfl)) rfl ⟨rfl, ?_⟩
      exact ((((((HEw1.out.bel.setCell (Nat.le_refl _) _).setCell (Nat.le_refl _) _).setCell (Nat.le_refl _) _).setCell (Nat.le_refl _) _).setCell (Nat.le_succ _) _).setCell (Nat.le_succ _) _).setCell (Nat.le_succ _) _

theorem rbrk_any (cf : ByteArray → (Nat → Bool) × Bool) (hrf : ClassRf cf) (v : Value) (l : List Int) (k : Nat) (lg : Int) (w : World) (hs : Sl w v l) (hk : k ≤ l.length) (hb47 : l.length ≤ 140737488351232) (hlg : lg = 2 ∨ lg = 3 ∨ lg = 4) :
    Calls Tryd.prog 11 #[v, .int .i64 k, .int .i64 lg] w fun e w' => RbPost (shB k (brkR cf (ofBys (l.drop k)) (decide (lg = 2)) 0)) lg e ∧ Below w.heap.size w w' := by
  have hsh := brkR_sh cf (sh_drop hs.1 k hk) (decide (lg = 2))
  rw [← hsh]
  clear hsh
  by_cases hkl : k < l.length
  · obtain ⟨x, o, cap, rfl⟩ : ∃ x o cap, v = .slice (some ⟨x, o, none⟩) l.length cap := by
      rcases hs.2.2 with ⟨rfl, _⟩ | ⟨x, o, cap, rfl, _⟩
      · simp at hkl
      · exact ⟨x, o, cap, rfl⟩
    have hat : ∀ j, atB (ofBys l) j = l.getD j 0 := fun j => atB_listR hs.1 j
    by_cases hc : l.getD k 0 = 94 ∨ (decide (lg = 2) = true ∧ l.getD k 0 = 33)
    · have h := rbrk_t cf hrf x o cap l k lg (decide (lg = 2)) (k + 1) w hs hkl hb47 hlg rfl ⟨rfl, hc⟩ rfl
      rw [refL_brkL cf (ofBys l) _ _ (k + 1) true noP (by rw [ofBys_size]; omega) (Nat.le_refl _)] at h
      have e : brkR cf (ofBys l) (decide (lg = 2)) k = brkT true (brkL cf (ofBys l) (decide (lg = 2)) ((ofBys l).size + 1 - (k + 1)) (k + 1) true noP) := by
        unfold brkR
        rw [hat, if_pos hc]
      rw [e]
      exact h
    · have h := rbrk_f cf hrf x o cap l k lg (decide (lg = 2)) k w hs hkl hb47 hlg rfl ⟨rfl, fun h => hc (Or.inl h), fun h => hc (Or.inr h)⟩ rfl
      rw [refL_brkL cf (ofBys l) _ _ k true noP (by rw [ofBys_size]; omega) (Nat.le_refl _)] at h
      have e : brkR cf (ofBys l) (decide (lg = 2)) k = brkT false (brkL cf (ofBys l) (decide (lg = 2)) ((ofBys l).size + 1 - k) k true noP) := by
        unfold brkR
        rw [hat, if_neg hc]
      rw [e]
      exact h
  · obtain rfl : k = l.length := by omega
    obtain ⟨ad, cap, rfl⟩ : ∃ ad cap, v = .slice ad l.length cap := by
      rcases hs.2.2 with ⟨rfl, ad, cap, rfl⟩ | ⟨x, o, cap, rfl, _⟩
      · exact ⟨ad, cap, rfl⟩
      · exact ⟨_, cap, rfl⟩
    have e : brkR cf (ofBys l) (decide (lg = 2)) l.length = .bad 8 l.length := by
      have hout := atB_out (s := ofBys l) (k := l.length) (by rw [ofBys_size]; exact Nat.le_refl _)
      unfold brkR
      rw [hout, if_neg (fun h => by rcases h with h | ⟨_, h⟩ <;> exact absurd h (by decide)), ofBys_size, show l.length + 1 - l.length = 0 + 1 by omega, brkL_out cf (ofBys l) _ 0 l.length true noP (by rw [ofBys_size]), ofBys_size]
      rfl
    rw [e]
    exact rbrk_end ad l.length cap lg w hlg
end Go.Proofs.YtoodpajbefffhaaDoor
/- The contract of the reference's Pattern (gen_rpat.py). -/
namespace Go.Proofs.YtoodpajbefffhaaDoor
open Go.RowKit

/-- The loop's state: so many bytes are read. -/
structure RpI (cf : ByteArray → (Nat → Bool) × Bool) (w0 : World) (l : List Int) (k : Nat) (ps : List Pc) (v : Value) (X : World) : Prop where
  hk : k ≤ l.length
  bel : Below w0.heap.size w0 X
  row : X.ownsRow w0.heap.size 41 5 v ps.length (cellsL ps)
  res : X.heap[w0.heap.size]? = some (.cells #[.int .i64 0, .int .i64 0, .int .i64 0] 26 (0, 0))
  spl : ps ++ glN cf l (l.length + 1) k = glP cf l
theorem many_c : Pc.many.cells = [.int .i64 3, .int .u64 0, .int .u64 0, .int .u64 0, .int .u64 0] := by
  have h := many_v
  unfold Pc.v at h
  simp only [Value.agg.injEq, Array.mk.injEq] at h
  exact h
theorem one_c : Pc.one.cells = [.int .i64 2, .int .u64 0, .int .u64 0, .int .u64 0, .int .u64 0] := by
  have h := one_v
  unfold Pc.v at h
  simp only [Value.agg.injEq, Array.mk.injEq] at h
  exact h

/-- Noughts stored into a fault's box of noughts. -/
theorem blk_store3 {X : World} {b i : Nat} (h : X.heap[b]? = some (.cells #[.int .i64 0, .int .i64 0, .int .i64 0] 26 (0, 0))) (hi : i < 3) : (X.setCell ⟨b, i, none⟩ (.int .i64 0)).heap[b]? = some (.cells #[.int .i64 0, .int .i64 0, .int .i64 0] 26 (0, 0)) := by
  show (X.heap.modify b _)[b]? = _
  rw [Array.getElem?_modify, if_pos rfl, h]
  rcases (by omega : i = 0 ∨ i = 1 ∨ i = 2) with rfl | rfl | rfl <;> rfl
theorem part_code {cf : ByteArray → (Nat → Bool) × Bool} {s : ByteArray} {g : Bool} {k c pos : Nat} (h : partR cf s g k = .bad c pos) : c ≠ 0 := by
  unfold partR at h
  split at h
  · simp only [PR.bad.injEq] at h; omega
  · cases h
  · split at h
    · split at h
      · simp only [PR.bad.injEq] at h; omega
      · simp only [PR.bad.injEq] at h; omega
      · split at h
        · simp only [PR.bad.injEq] at h; omega
        · cases h
    · cases h
theorem brkL_code {cf : ByteArray → (Nat → Bool) × Bool} {s : ByteArray} {g : Bool} {c pos : Nat} : ∀ (n k : Nat) (f : Bool) (p : Nat → Bool), 0 < n → s.size + 1 - k ≤ n → k ≤ s.size → brkL cf s g n k f p = .bad c pos → c ≠ 0
  | 0, _, _, _, h0, _, _, _ => absurd h0 (Nat.lt_irrefl _)
  | n + 1, k, f, p, _, hn, hk, h => by
    unfold brkL at h
    split at h
    · cases h
    · split at h
      · rename_i hp
        simp only [BR.bad.injEq] at h
        rw [← h.1]
        exact part_code hp
      · rename_i hp
        have := partR_next hp
        exact brkL_code n _ false _ (by omega) (by omega) (by omega) h
theorem brk_code (cf : ByteArray → (Nat → Bool) × Bool) (s : ByteArray) (g : Bool) {c pos : Nat} (h : brkR cf s g 0 = .bad c pos) : c ≠ 0 := by
  unfold brkR at h
  split at h
  · rename_i hc
    have h0 := atB_in (s := s) (k := 0) (by rcases hc with hc | hc <;> omega)
    cases hb : brkL cf s g (s.size + 1 - (0 + 1)) (0 + 1) true noP with
    | ok p nx => rw [hb] at h; cases h
    | bad c' pos' =>
      rw [hb] at h
      simp only [brkT, BR.bad.injEq] at h
      rw [← h.1]
      exact brkL_code _ _ _ _ (by omega) (Nat.le_refl _) (by omega) hb
  · cases hb : brkL cf s g (s.size + 1 - 0) 0 true noP with
    | ok p nx => rw [hb] at h; cases h
    | bad c' pos' =>
      rw [hb] at h
      simp only [brkT, BR.bad.injEq] at h
      rw [← h.1]
      exact brkL_code _ _ _ _ (by omega) (Nat.le_refl _) (by omega) hb
theorem radd_zero (c : Int) (h0 : 0 ≤ c) (h1 : c ≤ 255) (X : World) :
    Calls Tryd.prog 12 #[.agg #[.int .u64 0, .int .u64 0, .int .u64 0, .int .u64 0], .int .u8 c] X fun e w' => e = .returned (.agg #[.int .u64 (sw (mem [c]) 0 : Nat), .int .u64 (sw (mem [c]) 1 : Nat), .int .u64 (sw (mem [c]) 2 : Nat), .int .u64 (sw (mem [c]) 3 : Nat)]) ∧ Below X.heap.size X w' := by
  obtain ⟨c, rfl⟩ : ∃ n : Nat, c = (n : Int) := ⟨c.toNat, by omega⟩
  have h := radd_any noP c (by omega) X
  have z : ∀ i, ((sw noP i : Nat) : Int) = 0 := sw_zero
  have e : plus noP c = mem [(c : Int)] := by
    funext k
    unfold plus noP mem
    rw [Bool.eq_iff_iff]
    simp
    omega
  rw [e] at h
  unfold SV at h
  rw [z, z, z, z] at h
  exact h

set_option maxRecDepth 100000 in
set_option maxHeartbeats 4000000 in
theorem rpat_long (ad : Option Addr) (n cap : Nat) (hn : 256 < n) (w : World) :
    Calls Tryd.prog 4 #[.slice ad n cap] w fun e w' => e = .returned (.tuple #[.slice none 0 0, .agg #[.int .i64 2, .int .i64 0, .int .i64 2]]) ∧ Below w.heap.size w w' := by
  have HF : ∀ (c p lg : Int) X, Hid (Calls Tryd.prog 10 #[.int .i64 c, .int .i64 p, .int .i64 lg] X fun e w' => e = .returned (.agg #[.int .i64 c, .int .i64 p, .int .i64 lg]) ∧ Below X.heap.size X w') := fun c p lg X => Lib.hid (rf_any c p lg X)
  have hnI : (256 : Int) < (n : Int) := by omega
  go_enter Tryd.func4, Tryd.ntmps4
  go_wp2_with fail
  refine (HF _ _ _ _).out.mono ?_
  rintro e w1 ⟨rfl, hb1⟩
  have h8 : w1.heap[w.heap.size]? = some (.cells #[.int .i64 0, .int .i64 0, .int .i64 0] 26 (0, 0)) := blk_below (alloc_last w _) hb1
  have HB : Hid (Below w.heap.size w w1) := Lib.hid (((Below.refl _ _).alloc (Nat.le_refl _) _).trans (hb1.mono (by simp)))
  clear hb1
  have z8 : w.heap.size < w1.heap.size := lt_blkB h8
  have y80 : w1.cell? ⟨w.heap.size, 0, none⟩ = some (.int .i64 0) := by rw [Lib.cell_of_heap h8]; rfl
  have f80 : w1.frozen? ⟨w.heap.size, 0, none⟩ = false := Lib.frozen_of_heap h8 0
  have y81 : w1.cell? ⟨w.heap.size, 1, none⟩ = some (.int .i64 0) := by rw [Lib.cell_of_heap h8]; rfl
  have f81 : w1.frozen? ⟨w.heap.size, 1, none⟩ = false := Lib.frozen_of_heap h8 1
  have y82 : w1.cell? ⟨w.heap.size, 2, none⟩ = some (.int .i64 0) := by rw [Lib.cell_of_heap h8]; rfl
  have f82 : w1.frozen? ⟨w.heap.size, 2, none⟩ = false := Lib.frozen_of_heap h8 2
  clear h8
  go_wp2
  refine bodyPost_ret (by first | (simp [results, Tryd.results4, go_sem, y80, y81, y82]; done) | (simp [results, Tryd.results4, go_sem, y80, y81, y82]; rfl)) rfl ⟨rfl, ?_⟩
  exact ((HB.out.setCell (Nat.le_refl _) _).setCell (Nat.le_refl _) _).setCell (Nat.le_refl _) _

set_option maxRecDepth 100000 in
set_option maxHeartbeats 16000000 in
theorem rpat_any (cf : ByteArray → (Nat → Bool) × Bool) (hrf : ClassRf cf) (v : Value) (l : List Int) (w : World) (hs : Sl w v l) (hl : l.length ≤ 256) :
    Calls Tryd.prog 4 #[v] w fun e w' => ∃ r, e = .returned (.tuple #[r, .agg #[.int .i64 0, .int .i64 0, .int .i64 0]]) ∧ w'.ownsRow w.heap.size 41 5 r (glP cf l).length (cellsL (glP cf l)) ∧ Below w.heap.size w w' := by
  obtain ⟨i0, z0, hi, hz0, hz1, hz2, hz3⟩ := piece_parts
  have HROW : Hid (∀ k, k < l.length → ∃ x o cap, v = .slice (some ⟨x, o, none⟩) l.length cap ∧ w.cell? ⟨x, o + k, none⟩ = some (.int .u8 (l.getD k 0))) := Lib.hid fun k hk => by
    rcases hs.2.2 with ⟨rfl, _⟩ | ⟨x, o, cap, rfl, _, _, hr⟩
    · simp at hk
    · exact ⟨x, o, cap, rfl, hr k hk⟩
  have HBY := Lib.hid hs.1
  have HRF := Lib.hid hrf
  have HADD := Lib.hid (fun (c : Int) (h0 : 0 ≤ c) (h1 : c ≤ 255) (X : World) => radd_zero c h0 h1 X)
  have HBR : Hid (∀ (k : Nat) (X : World), k ≤ l.length → Below w.heap.size w X → Calls Tryd.prog 11 #[v, .int .i64 k, .int .i64 2] X fun e w' => RbPost (shB k (brkR cf (ofBys (l.drop k)) true 0)) 2 e ∧ Below X.heap.size X w') := Lib.hid fun k X hk hX => rbrk_any cf hrf v l k 2 X (hs.below hX) hk (by omega) (Or.inl rfl)
  obtain ⟨sa, sc, rfl⟩ : ∃ a cap, v = .slice a l.length cap := by
    rcases hs.2.2 with ⟨rfl, ad, cap, rfl⟩ | ⟨x, o, cap, rfl, _⟩
    · exact ⟨ad, cap, rfl⟩
    · exact ⟨_, cap, rfl⟩
  have HI0 : Hid (RpI cf w l 0 [] (.slice none 0 0) (w.alloc (.cells #[.int .i64 0, .int .i64 0, .int .i64 0] 26))) := Lib.hid ⟨Nat.zero_le _, (Below.refl _ _).alloc (Nat.le_refl _) _, World.ownsRow_nil _ _ _ _, alloc_last w _, rfl⟩
  obtain ⟨n, hn⟩ : ∃ n, n = l.length := ⟨_, rfl⟩
  rw [← hn] at hl HROW HBR ⊢
  have HN := Lib.hid hn
  clear hs hrf hn
  have hnI : ¬ (256 : Int) < (n : Int) := by omega
  go_enter Tryd.func4, Tryd.ntmps4
  go_wp2_with fail
  go_loopw [4, 5] (fun r ix X => ∃ (k : Nat) (ps : List Pc), ix = .int .i64 (k : Nat) ∧ Hid (RpI cf w l k ps r X)) (fun _ ix _ => n - (intOf ix).toNat)
  case atStart => exact ⟨0, [], rfl, HI0⟩
  case round =>
    obtain ⟨k, ps, rfl, HI⟩ := hrel
    have hk := HI.out.hk
    rw [← HN.out] at hk
    obtain ⟨r0, rc, hrv⟩ := own_shapeK HI.out.row
    subst hrv
    by_cases hlt : k < n
    · have hltL : k < l.length := by rw [← HN.out]; exact hlt
      obtain ⟨x, o, cp, hve, hcell⟩ := HROW.out k hlt
      simp only [Value.slice.injEq] at hve
      obtain ⟨rfl, _, rfl⟩ := hve
      have hxz := World.block_lt_of_cell? _ _ hcell
      have hcX : wr.cell? ⟨x, o + k, none⟩ = some (.int .u8 (l.getD k 0)) := by
        rw [HI.out.bel.cell (p := ⟨x, o + k, none⟩) hxz]; exact hcell
      have hxr : x < wr.heap.size := Nat.lt_of_lt_of_le hxz HI.out.bel.size
      have hby := HBY.out k
      have HG := Lib.hid (glN_step cf l k hltL)
      have HLN : Hid (ps.length ≤ l.length) := Lib.hid (by have h1 := congrArg List.length HI.out.spl; rw [List.length_append] at h1; have := glP_len cf l; omega)
      have hpsn : ps.length ≤ 256 := by have := HLN.out; rw [← HN.out] at this; omega
      have HXZ := Lib.hid hxz
      clear hcell hxz
      obtain ⟨c, hc⟩ : ∃ c, l.getD k 0 = c := ⟨_, rfl⟩
      have HCE := Lib.hid hc
      rw [hc] at hcX hby
      obtain ⟨hb0, hb1⟩ := hby
      have hkI : (k : Int) < (n : Int) := by omega
      have hk1I : (k : Int) + 1 ≤ (n : Int) := by omega
      clear hc
      by_cases h42 : c = 42
      · subst h42
        have HSTP : Hid (stepG cf l k = (.many, 1)) := Lib.hid (by unfold stepG; rw [HCE.out]; rfl)
        go_wp2_with (at_builtin; refine wpList_append_own _ rfl _ _ 24 rfl w.heap.size 41 i0 z0 5 40 Tryd.underlying24 hi hz0 hz1 hz2 hz3 (by decide) _ _ _ rfl (HI.out.row.alloc _) ⟨wr.heap.size, 0, none⟩ 1 1 ([.int .i64 3, .int .u64 0, .int .u64 0, .int .u64 0, .int .u64 0]) rfl rfl ?c1b ?c2b ?c3b ?c4b ?c5b ?_)
        try case c1b => first | exact news_of_blk (T := 41) (alloc_last _ _) | exact news_of_blk (T := 41) (by have h := alloc_last (wr) (.cells ([.int .i64 3, .int .u64 0, .int .u64 0, .int .u64 0, .int .u64 0]).toArray 41); simp only [World.size_alloc] at h; exact h)
        case c2b => first | exact one5 _ _ _ _ _ | exact ⟨rfl, rfl⟩ | (intro y hy; simp only [List.mem_cons, List.not_mem_nil, or_false] at hy; rcases hy with rfl | rfl | rfl | rfl | rfl <;> rfl)
        case c3b => first | omega | (unfold maxLen; omega) | (unfold maxLen; simp; omega)
        case c4b => first | omega | (simp; omega)
        case c5b => first | (have := HI.out.bel.size; omega) | (have := HI.out.bel.size; simp; omega) | (have := HB1.out.size; simp; omega)
        intro v' w4 hown' hgr _
        have HN4 : Hid (RpI cf w l (k + 1) (ps ++ [.many]) v' w4) := Lib.hid ⟨by have := (stepG_pos cf l k hltL).2; rw [HSTP.out] at this; exact this, (HI.out.bel.alloc HI.out.bel.size _).grown hgr (by first | (have := HI.out.bel.size; simp; omega) | (have := HB1.out.size; simp; omega)) (fun j hj => (HI.out.row.lt j hj).1), by rw [cellsL_snoc, List.length_append, many_c]; exact hown', blk_grown (blk_alloc HI.out.res _) hgr (own_neK HI.out.row HI.out.res (by decide)), by rw [List.append_assoc, List.singleton_append]; have := HG.out; rw [HSTP.out] at this; rw [← this]; exact HI.out.spl⟩
        clear hown' hgr
        go_wp2_with fail
        go_roundw
        case rel => first | exact ⟨k + 1, ps ++ [.many], by go_num, HN4⟩ | ((repeat apply Exists.intro); exact ⟨⟨k + 1, ps ++ [.many], by go_num, HN4⟩, rfl⟩)
        case measure => simp [intOf]; omega
      by_cases h63 : c = 63
      · subst h63
        have HSTP : Hid (stepG cf l k = (.one, 1)) := Lib.hid (by unfold stepG; rw [HCE.out]; rfl)
        go_wp2_with (at_builtin; refine wpList_append_own _ rfl _ _ 24 rfl w.heap.size 41 i0 z0 5 40 Tryd.underlying24 hi hz0 hz1 hz2 hz3 (by decide) _ _ _ rfl (HI.out.row.alloc _) ⟨wr.heap.size, 0, none⟩ 1 1 ([.int .i64 2, .int .u64 0, .int .u64 0, .int .u64 0, .int .u64 0]) rfl rfl ?c1c ?c2c ?c3c ?c4c ?c5c ?_)
        try case c1c => first | exact news_of_blk (T := 41) (alloc_last _ _) | exact news_of_blk (T := 41) (by have h := alloc_last (wr) (.cells ([.int .i64 2, .int .u64 0, .int .u64 0, .int .u64 0, .int .u64 0]).toArray 41); simp only [World.size_alloc] at h; exact h)
        case c2c => first | exact one5 _ _ _ _ _ | exact ⟨rfl, rfl⟩ | (intro y hy; simp only [List.mem_cons, List.not_mem_nil, or_false] at hy; rcases hy with rfl | rfl | rfl | rfl | rfl <;> rfl)
        case c3c => first | omega | (unfold maxLen; omega) | (unfold maxLen; simp; omega)
        case c4c => first | omega | (simp; omega)
        case c5c => first | (have := HI.out.bel.size; omega) | (have := HI.out.bel.size; simp; omega) | (have := HB1.out.size; simp; omega)
        intro v' w4 hown' hgr _
        have HN4 : Hid (RpI cf w l (k + 1) (ps ++ [.one]) v' w4) := Lib.hid ⟨by have := (stepG_pos cf l k hltL).2; rw [HSTP.out] at this; exact this, (HI.out.bel.alloc HI.out.bel.size _).grown hgr (by first | (have := HI.out.bel.size; simp; omega) | (have := HB1.out.size; simp; omega)) (fun j hj => (HI.out.row.lt j hj).1), by rw [cellsL_snoc, List.length_append, one_c]; exact hown', blk_grown (blk_alloc HI.out.res _) hgr (own_neK HI.out.row HI.out.res (by decide)), by rw [List.append_assoc, List.singleton_append]; have := HG.out; rw [HSTP.out] at this; rw [← this]; exact HI.out.spl⟩
        clear hown' hgr
        go_wp2_with fail
        go_roundw
        case rel => first | exact ⟨k + 1, ps ++ [.one], by go_num, HN4⟩ | ((repeat apply Exists.intro); exact ⟨⟨k + 1, ps ++ [.one], by go_num, HN4⟩, rfl⟩)
        case measure => simp [intOf]; omega
      have e42 : (c == 42) = false := beq_eq_false_iff_ne.2 h42
      have e63 : (c == 63) = false := beq_eq_false_iff_ne.2 h63
      by_cases h91 : c = 91
      · subst h91
        have HBR2 := HBR.out (k + 1) wr (by omega) HI.out.bel
        have hk1 : ((k + 1 : Nat) : Int) = (k : Int) + 1 := by omega
        rw [hk1] at HBR2
        clear hk1
        cases hbr : brkR cf (ofBys (l.drop (k + 1))) true 0 with
        | ok p nx =>
          rw [hbr] at HBR2
          have HSTP : Hid (stepG cf l k = (.byt p, 1 + nx)) := Lib.hid (by unfold stepG; rw [HCE.out, if_neg (by decide), if_neg (by decide), if_pos rfl, hbr])
          have hpos2 : k + (1 + nx) ≤ n := by have hp := (stepG_pos cf l k hltL).2; rw [HSTP.out] at hp; rw [HN.out]; exact hp
          have HBR3 : Hid (Calls Tryd.prog 11 #[.slice (some ⟨x, o, none⟩) n sc, .int .i64 ((k : Int) + 1), .int .i64 2] wr fun e w' => e = .returned (.tuple #[.agg #[.int .u64 (sw p 0 : Nat), .int .u64 (sw p 1 : Nat), .int .u64 (sw p 2 : Nat), .int .u64 (sw p 3 : Nat)], .int .i64 (k + 1 + nx : Nat), .agg #[.int .i64 0, .int .i64 0, .int .i64 0]]) ∧ Below wr.heap.size wr w') := Lib.hid HBR2
          clear hbr HBR2
          go_wp2_with fail
          refine HBR3.out.mono ?_
          rintro e w1 ⟨rfl, hb1⟩
          have HB1 := Lib.hid (below_thn HI.out.bel (Nat.le_refl _) hb1)
          have HR1 := Lib.hid (own_drop HI.out.row hb1)
          have HS1 := Lib.hid (blk_below HI.out.res hb1)
          clear hb1
          have HB2 : Hid (Below w.heap.size w ((w1.alloc (.cells #[.int .u64 (sw p 0 : Nat), .int .u64 (sw p 1 : Nat), .int .u64 (sw p 2 : Nat), .int .u64 (sw p 3 : Nat)] 39)).alloc (.cells #[.int .i64 0, .int .i64 0, .int .i64 0] 26))) := Lib.hid ((HB1.out.alloc HB1.out.size _).alloc (by have := HB1.out.size; simp; omega) _)
          have HR2 : Hid (((w1.alloc (.cells #[.int .u64 (sw p 0 : Nat), .int .u64 (sw p 1 : Nat), .int .u64 (sw p 2 : Nat), .int .u64 (sw p 3 : Nat)] 39)).alloc (.cells #[.int .i64 0, .int .i64 0, .int .i64 0] 26)).ownsRow w.heap.size 41 5 (.slice r0 ps.length rc) ps.length (cellsL ps)) := Lib.hid ((HR1.out.alloc _).alloc _)
          have HS2 : Hid (((w1.alloc (.cells #[.int .u64 (sw p 0 : Nat), .int .u64 (sw p 1 : Nat), .int .u64 (sw p 2 : Nat), .int .u64 (sw p 3 : Nat)] 39)).alloc (.cells #[.int .i64 0, .int .i64 0, .int .i64 0] 26)).heap[w.heap.size]? = some (.cells #[.int .i64 0, .int .i64 0, .int .i64 0] 26 (0, 0))) := Lib.hid (blk_alloc (blk_alloc HS1.out _) _)
          have hpI : (k : Int) + 1 + nx ≤ n := by omega
          go_wp2_with (at_builtin; refine wpList_append_own _ rfl _ _ 24 rfl w.heap.size 41 i0 z0 5 40 Tryd.underlying24 hi hz0 hz1 hz2 hz3 (by decide) _ _ _ rfl (HR2.out.alloc _) ⟨w1.heap.size + 1 + 1, 0, none⟩ 1 1 ((Pc.byt p).cells) rfl rfl ?c1d ?c2d ?c3d ?c4d ?c5d ?_)
          try case c1d => first | exact news_of_blk (T := 41) (alloc_last _ _) | exact news_of_blk (T := 41) (by have h := alloc_last (((w1.alloc (.cells #[.int .u64 (sw p 0 : Nat), .int .u64 (sw p 1 : Nat), .int .u64 (sw p 2 : Nat), .int .u64 (sw p 3 : Nat)] 39)).alloc (.cells #[.int .i64 0, .int .i64 0, .int .i64 0] 26))) (.cells ((Pc.byt p).cells).toArray 41); simp only [World.size_alloc] at h; exact h)
          case c2d => first | exact one5 _ _ _ _ _ | exact ⟨rfl, rfl⟩ | (intro y hy; simp only [List.mem_cons, List.not_mem_nil, or_false] at hy; rcases hy with rfl | rfl | rfl | rfl | rfl <;> rfl)
          case c3d => first | omega | (unfold maxLen; omega) | (unfold maxLen; simp; omega)
          case c4d => first | omega | (simp; omega)
          case c5d => first | (have := HB2.out.size; omega) | (have := HB2.out.size; simp; omega) | (have := HB1.out.size; simp; omega)
          intro v' w4 hown' hgr _
          have HN4 : Hid (RpI cf w l (k + (1 + nx)) (ps ++ [.byt p]) v' w4) := Lib.hid ⟨by have := (stepG_pos cf l k hltL).2; rw [HSTP.out] at this; exact this, (HB2.out.alloc HB2.out.size _).grown hgr (by first | (have := HB2.out.size; simp; omega) | (have := HB1.out.size; simp; omega)) (fun j hj => (HR2.out.lt j hj).1), by rw [cellsL_snoc, List.length_append, List.length_singleton]; exact hown', blk_grown (blk_alloc HS2.out _) hgr (own_neK HR2.out HS2.out (by decide)), by rw [List.append_assoc, List.singleton_append]; have := HG.out; rw [HSTP.out] at this; rw [← this]; exact HI.out.spl⟩
          clear hown' hgr
          go_wp2_with fail
          go_roundw
          case rel => first | exact ⟨k + (1 + nx), ps ++ [.byt p], by (first | go_num | (congr 1; omega)), HN4⟩ | ((repeat apply Exists.intro); exact ⟨⟨k + (1 + nx), ps ++ [.byt p], by (first | go_num | (congr 1; omega)), HN4⟩, rfl⟩)
          case measure => simp [intOf]; omega
        | bad cd pos =>
          rw [hbr] at HBR2
          have HSTP : Hid (stepG cf l k = (.byt (mem [91]), 1)) := Lib.hid (by unfold stepG; rw [HCE.out, if_neg (by decide), if_neg (by decide), if_pos rfl, hbr])
          have HCD := Lib.hid (brk_code cf _ _ hbr)
          have HBR3 : Hid (Calls Tryd.prog 11 #[.slice (some ⟨x, o, none⟩) n sc, .int .i64 ((k : Int) + 1), .int .i64 2] wr fun e w' => e = .returned (.tuple #[.agg #[.int .u64 0, .int .u64 0, .int .u64 0, .int .u64 0], .int .i64 0, .agg #[.int .i64 (cd : Nat), .int .i64 (k + 1 + pos : Nat), .int .i64 2]]) ∧ Below wr.heap.size wr w') := Lib.hid HBR2
          clear hbr HBR2
          have ecd : ((cd : Int) == 0) = false := beq_eq_false_iff_ne.2 (by have := HCD.out; omega)
          go_wp2_with fail
          refine HBR3.out.mono ?_
          rintro e w1 ⟨rfl, hb1⟩
          have HB1 := Lib.hid (below_thn HI.out.bel (Nat.le_refl _) hb1)
          have HR1 := Lib.hid (own_drop HI.out.row hb1)
          have HS1 := Lib.hid (blk_below HI.out.res hb1)
          clear hb1 hcX
          have HB2 : Hid (Below w.heap.size w ((w1.alloc (.cells #[.int .u64 0, .int .u64 0, .int .u64 0, .int .u64 0] 39)).alloc (.cells #[.int .i64 (cd : Nat), .int .i64 (k + 1 + pos : Nat), .int .i64 2] 26))) := Lib.hid ((HB1.out.alloc HB1.out.size _).alloc (by have := HB1.out.size; simp; omega) _)
          have HR2 : Hid (((w1.alloc (.cells #[.int .u64 0, .int .u64 0, .int .u64 0, .int .u64 0] 39)).alloc (.cells #[.int .i64 (cd : Nat), .int .i64 (k + 1 + pos : Nat), .int .i64 2] 26)).ownsRow w.heap.size 41 5 (.slice r0 ps.length rc) ps.length (cellsL ps)) := Lib.hid ((HR1.out.alloc _).alloc _)
          have HS2 : Hid (((w1.alloc (.cells #[.int .u64 0, .int .u64 0, .int .u64 0, .int .u64 0] 39)).alloc (.cells #[.int .i64 (cd : Nat), .int .i64 (k + 1 + pos : Nat), .int .i64 2] 26)).heap[w.heap.size]? = some (.cells #[.int .i64 0, .int .i64 0, .int .i64 0] 26 (0, 0))) := Lib.hid (blk_alloc (blk_alloc HS1.out _) _)
          go_wp2_with fail
          refine (HADD.out 91 (by decide) (by decide) _).mono ?_
          rintro e w3 ⟨rfl, hb3⟩
          have HB3 := Lib.hid (below_thn HB2.out (Nat.le_refl _) hb3)
          have HR3 := Lib.hid (own_drop HR2.out hb3)
          have HS3 := Lib.hid (blk_below HS2.out hb3)
          clear hb3
          go_wp2_with (at_builtin; refine wpList_append_own _ rfl _ _ 24 rfl w.heap.size 41 i0 z0 5 40 Tryd.underlying24 hi hz0 hz1 hz2 hz3 (by decide) _ _ _ rfl (HR3.out.alloc _) ⟨w3.heap.size, 0, none⟩ 1 1 ((Pc.byt (mem [91])).cells) rfl rfl ?c1e ?c2e ?c3e ?c4e ?c5e ?_)
          try case c1e => first | exact news_of_blk (T := 41) (alloc_last _ _) | exact news_of_blk (T := 41) (by have h := alloc_last (w3) (.cells ((Pc.byt (mem [91])).cells).toArray 41); simp only [World.size_alloc] at h; exact h)
          case c2e => first | exact one5 _ _ _ _ _ | exact ⟨rfl, rfl⟩ | (intro y hy; simp only [List.mem_cons, List.not_mem_nil, or_false] at hy; rcases hy with rfl | rfl | rfl | rfl | rfl <;> rfl)
          case c3e => first | omega | (unfold maxLen; omega) | (unfold maxLen; simp; omega)
          case c4e => first | omega | (simp; omega)
          case c5e => first | (have := HB3.out.size; omega) | (have := HB3.out.size; simp; omega) | (have := HB1.out.size; simp; omega)
          intro v' w4 hown' hgr _
          have HN4 : Hid (RpI cf w l (k + 1) (ps ++ [.byt (mem [91])]) v' w4) := Lib.hid ⟨by have := (stepG_pos cf l k hltL).2; rw [HSTP.out] at this; exact this, (HB3.out.alloc HB3.out.size _).grown hgr (by first | (have := HB3.out.size; simp; omega) | (have := HB1.out.size; simp; omega)) (fun j hj => (HR3.out.lt j hj).1), by rw [cellsL_snoc, List.length_append, List.length_singleton]; exact hown', blk_grown (blk_alloc HS3.out _) hgr (own_neK HR3.out HS3.out (by decide)), by rw [List.append_assoc, List.singleton_append]; have := HG.out; rw [HSTP.out] at this; rw [← this]; exact HI.out.spl⟩
          clear hown' hgr
          go_wp2_with fail
          go_roundw
          case rel => first | exact ⟨k + 1, ps ++ [.byt (mem [91])], by go_num, HN4⟩ | ((repeat apply Exists.intro); exact ⟨⟨k + 1, ps ++ [.byt (mem [91])], by go_num, HN4⟩, rfl⟩)
          case measure => simp [intOf]; omega
      have e91 : (c == 91) = false := beq_eq_false_iff_ne.2 h91
      by_cases h92 : c = 92
      · subst h92
        by_cases hk1 : k + 1 < n
        · skip
          obtain ⟨x', o', cp', hve, hcell⟩ := HROW.out (k + 1) hk1
          simp only [Value.slice.injEq, Option.some.injEq, Addr.mk.injEq] at hve
          obtain ⟨⟨rfl, rfl, _⟩, _, rfl⟩ := hve
          have hby := HBY.out (k + 1)
          obtain ⟨d, hd⟩ : ∃ d, l.getD (k + 1) 0 = d := ⟨_, rfl⟩
          have hcX1 : wr.cell? ⟨x, o + (k + 1), none⟩ = some (.int .u8 d) := by
            rw [← hd, HI.out.bel.cell (p := ⟨x, o + (k + 1), none⟩) HXZ.out]; exact hcell
          rw [hd] at hby
          obtain ⟨hd0, hd1⟩ := hby
          have hk2I : (k : Int) + 1 < (n : Int) := by omega
          have hk1e : ((k + 1 : Nat) : Int) = (k : Int) + 1 := by omega
          have HSTP : Hid (stepG cf l k = (.byt (mem [d]), 2)) := Lib.hid (by unfold stepG; rw [HCE.out, if_neg (by decide), if_neg (by decide), if_neg (by decide), if_pos rfl, if_pos (by rw [← HN.out]; exact hk1), hd])
          clear hcell hd
          have HKE := Lib.hid hk1e
          clear hk1e
          go_wp2_with fail
          refine (HADD.out d hd0 hd1 _).mono ?_
          rintro e w3 ⟨rfl, hb3⟩
          have HB3 := Lib.hid (below_thn HI.out.bel (Nat.le_refl _) hb3)
          have HR3 := Lib.hid (own_drop HI.out.row hb3)
          have HS3 := Lib.hid (blk_below HI.out.res hb3)
          clear hb3
          go_wp2_with (at_builtin; refine wpList_append_own _ rfl _ _ 24 rfl w.heap.size 41 i0 z0 5 40 Tryd.underlying24 hi hz0 hz1 hz2 hz3 (by decide) _ _ _ rfl (HR3.out.alloc _) ⟨w3.heap.size, 0, none⟩ 1 1 ((Pc.byt (mem [d])).cells) rfl rfl ?c1f ?c2f ?c3f ?c4f ?c5f ?_)
          try case c1f => first | exact news_of_blk (T := 41) (alloc_last _ _) | exact news_of_blk (T := 41) (by have h := alloc_last (w3) (.cells ((Pc.byt (mem [d])).cells).toArray 41); simp only [World.size_alloc] at h; exact h)
          case c2f => first | exact one5 _ _ _ _ _ | exact ⟨rfl, rfl⟩ | (intro y hy; simp only [List.mem_cons, List.not_mem_nil, or_false] at hy; rcases hy with rfl | rfl | rfl | rfl | rfl <;> rfl)
          case c3f => first | omega | (unfold maxLen; omega) | (unfold maxLen; simp; omega)
          case c4f => first | omega | (simp; omega)
          case c5f => first | (have := HB3.out.size; omega) | (have := HB3.out.size; simp; omega) | (have := HB1.out.size; simp; omega)
          intro v' w4 hown' hgr _
          have HN4 : Hid (RpI cf w l (k + 2) (ps ++ [.byt (mem [d])]) v' w4) := Lib.hid ⟨by have := (stepG_pos cf l k hltL).2; rw [HSTP.out] at this; exact this, (HB3.out.alloc HB3.out.size _).grown hgr (by first | (have := HB3.out.size; simp; omega) | (have := HB1.out.size; simp; omega)) (fun j hj => (HR3.out.lt j hj).1), by rw [cellsL_snoc, List.length_append, List.length_singleton]; exact hown', blk_grown (blk_alloc HS3.out _) hgr (own_neK HR3.out HS3.out (by decide)), by rw [List.append_assoc, List.singleton_append]; have := HG.out; rw [HSTP.out] at this; rw [← this]; exact HI.out.spl⟩
          clear hown' hgr
          go_wp2_with fail
          go_roundw
          case rel => first | exact ⟨k + 2, ps ++ [.byt (mem [d])], by (first | go_num | (congr 1; omega)), HN4⟩ | ((repeat apply Exists.intro); exact ⟨⟨k + 2, ps ++ [.byt (mem [d])], by (first | go_num | (congr 1; omega)), HN4⟩, rfl⟩)
          case measure => simp [intOf]; omega
        · skip
          have hk2I : ¬ (k : Int) + 1 < (n : Int) := by omega
          have HSTP : Hid (stepG cf l k = (.byt (mem [92]), 1)) := Lib.hid (by unfold stepG; rw [HCE.out, if_neg (by decide), if_neg (by decide), if_neg (by decide), if_pos rfl, if_neg (by rw [← HN.out]; exact hk1)])
          go_wp2_with fail
          refine (HADD.out 92 (by decide) (by decide) _).mono ?_
          rintro e w3 ⟨rfl, hb3⟩
          have HB3 := Lib.hid (below_thn HI.out.bel (Nat.le_refl _) hb3)
          have HR3 := Lib.hid (own_drop HI.out.row hb3)
          have HS3 := Lib.hid (blk_below HI.out.res hb3)
          clear hb3
          go_wp2_with (at_builtin; refine wpList_append_own _ rfl _ _ 24 rfl w.heap.size 41 i0 z0 5 40 Tryd.underlying24 hi hz0 hz1 hz2 hz3 (by decide) _ _ _ rfl (HR3.out.alloc _) ⟨w3.heap.size, 0, none⟩ 1 1 ((Pc.byt (mem [92])).cells) rfl rfl ?c1g ?c2g ?c3g ?c4g ?c5g ?_)
          try case c1g => first | exact news_of_blk (T := 41) (alloc_last _ _) | exact news_of_blk (T := 41) (by have h := alloc_last (w3) (.cells ((Pc.byt (mem [92])).cells).toArray 41); simp only [World.size_alloc] at h; exact h)
          case c2g => first | exact one5 _ _ _ _ _ | exact ⟨rfl, rfl⟩ | (intro y hy; simp only [List.mem_cons, List.not_mem_nil, or_false] at hy; rcases hy with rfl | rfl | rfl | rfl | rfl <;> rfl)
          case c3g => first | omega | (unfold maxLen; omega) | (unfold maxLen; simp; omega)
          case c4g => first | omega | (simp; omega)
          case c5g => first | (have := HB3.out.size; omega) | (have := HB3.out.size; simp; omega) | (have := HB1.out.size; simp; omega)
          intro v' w4 hown' hgr _
          have HN4 : Hid (RpI cf w l (k + 1) (ps ++ [.byt (mem [92])]) v' w4) := Lib.hid ⟨by have := (stepG_pos cf l k hltL).2; rw [HSTP.out] at this; exact this, (HB3.out.alloc HB3.out.size _).grown hgr (by first | (have := HB3.out.size; simp; omega) | (have := HB1.out.size; simp; omega)) (fun j hj => (HR3.out.lt j hj).1), by rw [cellsL_snoc, List.length_append, List.length_singleton]; exact hown', blk_grown (blk_alloc HS3.out _) hgr (own_neK HR3.out HS3.out (by decide)), by rw [List.append_assoc, List.singleton_append]; have := HG.out; rw [HSTP.out] at this; rw [← this]; exact HI.out.spl⟩
          clear hown' hgr
          go_wp2_with fail
          go_roundw
          case rel => first | exact ⟨k + 1, ps ++ [.byt (mem [92])], by go_num, HN4⟩ | ((repeat apply Exists.intro); exact ⟨⟨k + 1, ps ++ [.byt (mem [92])], by go_num, HN4⟩, rfl⟩)
          case measure => simp [intOf]; omega
      have e92 : (c == 92) = false := beq_eq_false_iff_ne.2 h92
      have HSTP : Hid (stepG cf l k = (.byt (mem [c]), 1)) := Lib.hid (by unfold stepG; rw [HCE.out, if_neg h42, if_neg h63, if_neg h91, if_neg h92])
      go_wp2_with fail
      refine (HADD.out c hb0 hb1 _).mono ?_
      rintro e w3 ⟨rfl, hb3⟩
      have HB3 := Lib.hid (below_thn HI.out.bel (Nat.le_refl _) hb3)
      have HR3 := Lib.hid (own_drop HI.out.row hb3)
      have HS3 := Lib.hid (blk_below HI.out.res hb3)
      clear hb3
      go_wp2_with (at_builtin; refine wpList_append_own _ rfl _ _ 24 rfl w.heap.size 41 i0 z0 5 40 Tryd.underlying24 hi hz0 hz1 hz2 hz3 (by decide) _ _ _ rfl (HR3.out.alloc _) ⟨w3.heap.size, 0, none⟩ 1 1 ((Pc.byt (mem [c])).cells) rfl rfl ?c1h ?c2h ?c3h ?c4h ?c5h ?_)
      try case c1h => first | exact news_of_blk (T := 41) (alloc_last _ _) | exact news_of_blk (T := 41) (by have h := alloc_last (w3) (.cells ((Pc.byt (mem [c])).cells).toArray 41); simp only [World.size_alloc] at h; exact h)
      case c2h => first | exact one5 _ _ _ _ _ | exact ⟨rfl, rfl⟩ | (intro y hy; simp only [List.mem_cons, List.not_mem_nil, or_false] at hy; rcases hy with rfl | rfl | rfl | rfl | rfl <;> rfl)
      case c3h => first | omega | (unfold maxLen; omega) | (unfold maxLen; simp; omega)
      case c4h => first | omega | (simp; omega)
      case c5h => first | (have := HB3.out.size; omega) | (have := HB3.out.size; simp; omega) | (have := HB1.out.size; simp; omega)
      intro v' w4 hown' hgr _
      have HN4 : Hid (RpI cf w l (k + 1) (ps ++ [.byt (mem [c])]) v' w4) := Lib.hid ⟨by have := (stepG_pos cf l k hltL).2; rw [HSTP.out] at this; exact this, (HB3.out.alloc HB3.out.size _).grown hgr (by first | (have := HB3.out.size; simp; omega) | (have := HB1.out.size; simp; omega)) (fun j hj => (HR3.out.lt j hj).1), by rw [cellsL_snoc, List.length_append, List.length_singleton]; exact hown', blk_grown (blk_alloc HS3.out _) hgr (own_neK HR3.out HS3.out (by decide)), by rw [List.append_assoc, List.singleton_append]; have := HG.out; rw [HSTP.out] at this; rw [← this]; exact HI.out.spl⟩
      clear hown' hgr
      go_wp2_with fail
      go_roundw
      case rel => first | exact ⟨k + 1, ps ++ [.byt (mem [c])], by go_num, HN4⟩ | ((repeat apply Exists.intro); exact ⟨⟨k + 1, ps ++ [.byt (mem [c])], by go_num, HN4⟩, rfl⟩)
      case measure => simp [intOf]; omega
    · have hke : k = n := by omega
      have hkI : ¬ (k : Int) < (n : Int) := by omega
      have HPS : Hid (ps = glP cf l) := Lib.hid (by
        have h1 := HI.out.spl
        rw [hke, HN.out, glN_end cf l _ (Nat.lt_irrefl _)] at h1
        rw [← h1, List.append_nil])
      have h8 := HI.out.res
      have z8 : w.heap.size < wr.heap.size := lt_blkB h8
      have y80 : wr.cell? ⟨w.heap.size, 0, none⟩ = some (.int .i64 0) := by rw [Lib.cell_of_heap h8]; rfl
      have f80 : wr.frozen? ⟨w.heap.size, 0, none⟩ = false := Lib.frozen_of_heap h8 0
      have y81 : wr.cell? ⟨w.heap.size, 1, none⟩ = some (.int .i64 0) := by rw [Lib.cell_of_heap h8]; rfl
      have f81 : wr.frozen? ⟨w.heap.size, 1, none⟩ = false := Lib.frozen_of_heap h8 1
      have y82 : wr.cell? ⟨w.heap.size, 2, none⟩ = some (.int .i64 0) := by rw [Lib.cell_of_heap h8]; rfl
      have f82 : wr.frozen? ⟨w.heap.size, 2, none⟩ = false := Lib.frozen_of_heap h8 2
      have HH8 := Lib.hid h8
      clear h8 hke
      go_wp2
      refine bodyPost_ret (by first | (simp [results, Tryd.results4, go_sem, y80, y81, y82]; done) | (simp [results, Tryd.results4, go_sem, y80, y81, y82]; rfl)) rfl ⟨_, rfl, ?_, ?_⟩
      · rw [← HPS.out]
        have ne := own_neK HI.out.row HH8.out (show 26 ≠ 41 by decide)
        have h1 := own_set HI.out.row HH8.out (by decide) 0 (.int .i64 0)
        have b1 := blk_store3 HH8.out (show 0 < 3 by decide)
        have h2 := own_set h1 b1 (by decide) 1 (.int .i64 0)
        have b2 := blk_store3 b1 (show 1 < 3 by decide)
        exact own_set h2 b2 (by decide) 2 (.int .i64 0)
      · exact ((HI.out.bel.setCell (Nat.le_refl _) _).setCell (Nat.le_refl _) _).setCell (Nat.le_refl _) _
    end Go.Proofs.YtoodpajbefffhaaDoor
