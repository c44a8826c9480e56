/- The contract of fill. -/
import Derived.Test.YtoodpajbefffhaaDoorGlM2
import Derived.Test.YtoodpajbefffhaaDoorShelf
import Derived.BigRegion
import Derived.StillTailTactics
import Derived.Deep.OwnRows
import Derived.Lib.BitFns
/- What a pattern matches: places by a fold, and languages (pure). -/
namespace Go.Proofs.YtoodpajbefffhaaDoor
open Go.RowKit

/-- The part of a text between two places. -/
def sub (s : List Int) (i k : Nat) : List Int := (s.drop i).take (k - i)
theorem sub_len (s : List Int) (i k : Nat) (h : k ≤ s.length) : (sub s i k).length = k - i := by
  unfold sub; rw [List.length_take, List.length_drop]; omega
theorem sub_one (s : List Int) (i : Nat) (h : i < s.length) : sub s i (i + 1) = [s.getD i 0] := by
  unfold sub
  rw [show i + 1 - i = 1 by omega, List.drop_eq_getElem_cons h, List.take_succ_cons, List.take_zero, List.getD_eq_getElem?_getD, List.getElem?_eq_getElem h]
  rfl
/-- What one piece matches; what a row of pieces does. -/
def l1 : Pc → List Int → Prop
  | .many, _ => True
  | .one, u => ∃ c, u = [c]
  | .byt p, u => ∃ c, u = [c] ∧ p c.toNat = true
/-- One piece more: from the places P of the text s to the next ones. -/
def stp (s : List Int) : Pc → (Nat → Bool) → Nat → Bool
  | .many, P, k => decide (k ≤ s.length) && (List.range (k + 1)).any P
  | .one, P, k => decide (0 < k) && (decide (k ≤ s.length) && P (k - 1))
  | .byt p, P, k => decide (0 < k) && (decide (k ≤ s.length) && (P (k - 1) && p (s.getD (k - 1) 0).toNat))
def endsP (s : List Int) : List Pc → (Nat → Bool) → Nat → Bool
  | [], P => P
  | x :: r, P => endsP s r (stp s x P)
def P0 (k : Nat) : Bool := k == 0
/-- Places lie in the text. -/
def Fits (s : List Int) (P : Nat → Bool) : Prop := ∀ i, P i = true → i ≤ s.length
theorem P0_fits (s : List Int) : Fits s P0 := fun i h => by unfold P0 at h; simp at h; omega
theorem stp_fits (s : List Int) (x : Pc) (P : Nat → Bool) : Fits s (stp s x P) := fun k h => by
  cases x <;> simp only [stp, Bool.and_eq_true, decide_eq_true_eq] at h
  · exact h.1
  · exact h.2.1
  · exact h.2.1
theorem stp_iff (s : List Int) (x : Pc) (P : Nat → Bool) (j : Nat) : stp s x P j = true ↔ ∃ i, i ≤ j ∧ j ≤ s.length ∧ P i = true ∧ l1 x (sub s i j) := by
  cases x with
  | many =>
    simp only [stp, Bool.and_eq_true, decide_eq_true_eq, List.any_eq_true, List.mem_range]
    exact ⟨fun ⟨h1, i, hi, hp⟩ => ⟨i, by omega, h1, hp, trivial⟩, fun ⟨i, hi, h1, hp, _⟩ => ⟨h1, i, by omega, hp⟩⟩
  | one =>
    simp only [stp, Bool.and_eq_true, decide_eq_true_eq]
    constructor
    · rintro ⟨h0, h1, hp⟩
      refine ⟨j - 1, by omega, h1, hp, s.getD (j - 1) 0, ?_⟩
      have := sub_one s (j - 1) (by omega)
      rwa [show j - 1 + 1 = j by omega] at this
    · rintro ⟨i, hi, h1, hp, c, hc⟩
      have := congrArg List.length hc
      rw [sub_len s i j h1] at this
      simp at this
      obtain rfl : i = j - 1 := by omega
      exact ⟨by omega, h1, hp⟩
  | byt p =>
    simp only [stp, Bool.and_eq_true, decide_eq_true_eq]
    constructor
    · rintro ⟨h0, h1, hp, hq⟩
      refine ⟨j - 1, by omega, h1, hp, s.getD (j - 1) 0, ?_, hq⟩
      have := sub_one s (j - 1) (by omega)
      rwa [show j - 1 + 1 = j by omega] at this
    · rintro ⟨i, hi, h1, hp, c, hc, hq⟩
      have := congrArg List.length hc
      rw [sub_len s i j h1] at this
      simp at this
      obtain rfl : i = j - 1 := by omega
      have h2 := sub_one s (j - 1) (by omega)
      rw [show j - 1 + 1 = j by omega, hc] at h2
      simp only [List.cons.injEq, and_true] at h2
      rw [h2] at hq
      exact ⟨by omega, h1, hp, hq⟩
/-- Nothing comes of nothing. -/
theorem stp_none (s : List Int) (x : Pc) (P : Nat → Bool) (h : ∀ i, P i = false) (k : Nat) : stp s x P k = false := by
  cases hk : stp s x P k
  · rfl
  · obtain ⟨i, _, _, hp, _⟩ := (stp_iff s x P k).1 hk
    rw [h i] at hp; cases hp
theorem ends_none (s : List Int) : ∀ (ps : List Pc) (P : Nat → Bool), (∀ i, P i = false) → ∀ k, endsP s ps P k = false
  | [], _, h, k => h k
  | x :: r, P, h, k => ends_none s r _ (stp_none s x P h) k

/-- The places up to which a pattern matches a text from its beginning. -/
def epl (ps : List Pc) (s : List Int) : Nat → Bool := endsP s ps P0
/-- The places that are gone through: how many there are below a place. -/
def cntP (P : Nat → Bool) : Nat → Nat
  | 0 => 0
  | n + 1 => cntP P n + (P n).toNat
theorem cntP_le (P : Nat → Bool) : ∀ n, cntP P n ≤ n
  | 0 => Nat.le_refl _
  | n + 1 => by have := cntP_le P n; unfold cntP; cases P n <;> simp <;> omega
theorem cntP_skip (P : Nat → Bool) (m : Nat) : ∀ n, (∀ j, j < n → P (m + j) = false) → cntP P (m + n) = cntP P m
  | 0, _ => rfl
  | n + 1, h => by
    rw [← Nat.add_assoc]
    show cntP P (m + n) + (P (m + n)).toNat = _
    rw [h n (by omega), cntP_skip P m n fun j hj => h j (by omega)]
    simp
theorem cntP_step (P : Nat → Bool) (m : Nat) (h : P m = true) : cntP P (m + 1) = cntP P m + 1 := by
  show cntP P m + (P m).toNat = _
  rw [h]; rfl
/-- How often bytes are compared. -/
def cstp (s : List Int) : Pc → (Nat → Bool) → Nat
  | .many, _ => 0
  | _, P => cntP P s.length
def cends (s : List Int) : List Pc → (Nat → Bool) → Nat
  | [], _ => 0
  | x :: r, P => cstp s x P + cends s r (stp s x P)
theorem cstp_le (s : List Int) (x : Pc) (P : Nat → Bool) : cstp s x P ≤ s.length := by
  cases x
  · exact Nat.zero_le _
  · exact cntP_le P _
  · exact cntP_le P _
theorem cends_le (s : List Int) : ∀ (ps : List Pc) (P : Nat → Bool), cends s ps P ≤ s.length * ps.length
  | [], _ => Nat.le_refl _
  | x :: r, P => by
    have a := cstp_le s x P
    have b := cends_le s r (stp s x P)
    unfold cends
    rw [List.length_cons, Nat.mul_succ]
    omega
theorem cntP_none (P : Nat → Bool) (h : ∀ i, P i = false) : ∀ n, cntP P n = 0
  | 0 => rfl
  | n + 1 => by unfold cntP; rw [cntP_none P h n, h n]; rfl
theorem cends_none (s : List Int) : ∀ (ps : List Pc) (P : Nat → Bool), (∀ i, P i = false) → cends s ps P = 0
  | [], _, _ => rfl
  | x :: r, P, h => by
    have e : cstp s x P = 0 := by
      cases x
      · rfl
      · exact cntP_none P h _
      · exact cntP_none P h _
    unfold cends
    rw [e, cends_none s r _ (stp_none s x P h)]
end Go.Proofs.YtoodpajbefffhaaDoor
/- Places in memory. -/
namespace Go.Proofs.YtoodpajbefffhaaDoor
open Go.RowKit

theorem u64_row : (Tryd.prog.info? 37).map (fun i => (i.zero, i.size, i.bytes)) = some (some (.int .u64 0), 1, 8) := by kernel_rfl
/-- The words of the places P lie in the block b. -/
def PL (w : World) (b n : Nat) (P : Nat → Bool) : Prop := ∃ cs : Array Value, w.heap[b]? = some (.cells cs 37 (0, 0)) ∧ cs.size = n ∧ ∀ i, i < n → cs[i]? = some (.int .u64 (sw P i : Nat))
theorem PL.cell {w : World} {b n : Nat} {P : Nat → Bool} (h : PL w b n P) {i : Nat} (hi : i < n) : w.cell? ⟨b, i, none⟩ = some (.int .u64 (sw P i : Nat)) := by
  obtain ⟨cs, hb, _, hc⟩ := h
  rw [Lib.cell_of_heap hb]
  exact hc i hi
theorem PL.free {w : World} {b n : Nat} {P : Nat → Bool} (h : PL w b n P) (i : Nat) : w.frozen? ⟨b, i, none⟩ = false := by
  obtain ⟨cs, hb, _⟩ := h
  exact Lib.frozen_of_heap hb i
theorem PL.lt {w : World} {b n : Nat} {P : Nat → Bool} (h : PL w b n P) : b < w.heap.size := by
  obtain ⟨cs, hb, _⟩ := h
  exact lt_blkB hb
theorem PL.kept {w w' : World} {b n : Nat} {P : Nat → Bool} (h : PL w b n P) (hk : w'.heap[b]? = w.heap[b]?) : PL w' b n P := by
  obtain ⟨cs, hb, h1, h2⟩ := h
  exact ⟨cs, hk.trans hb, h1, h2⟩
theorem PL.congr {w : World} {b n : Nat} {P Q : Nat → Bool} (h : PL w b n P) (hq : ∀ i, i < n → sw P i = sw Q i) : PL w b n Q := by
  obtain ⟨cs, hb, h1, h2⟩ := h
  exact ⟨cs, hb, h1, fun i hi => by rw [h2 i hi, hq i hi]⟩
theorem PL.set {w : World} {b n : Nat} {P : Nat → Bool} (h : PL w b n P) (k : Nat) (Q : Nat → Bool) (hq : ∀ i, i < n → i ≠ k → sw P i = sw Q i) : PL (w.setCell ⟨b, k, none⟩ (.int .u64 (sw Q k : Nat))) b n Q := by
  obtain ⟨cs, hb, h1, h2⟩ := h
  refine ⟨cs.setIfInBounds k (.int .u64 (sw Q k : Nat)), ?_, by simpa using h1, fun i hi => ?_⟩
  · show (w.heap.modify _ _)[b]? = _
    rw [Array.getElem?_modify, if_pos rfl, hb]
    rfl
  · rw [Array.getElem?_setIfInBounds]
    by_cases hik : k = i
    · subst hik
      rw [if_pos rfl, if_pos (by omega)]
    · rw [if_neg hik, h2 i hi, hq i hi (fun e => hik e.symm)]
theorem PL.drew {w : World} {b n : Nat} {P : Nat → Bool} (h : PL w b n P) : PL w.drew b n P := h
theorem PL.alloc {w : World} {b n : Nat} {P : Nat → Bool} (h : PL w b n P) (o : Obj) : PL (w.alloc o) b n P := h.kept (Below.heap_alloc _ _ _ h.lt)
theorem PL.other {w : World} {b n b' k : Nat} {P : Nat → Bool} (h : PL w b n P) (hne : b ≠ b') (y : Value) : PL (w.setCell ⟨b', k, none⟩ y) b n P := h.kept (Below.heap_setCell _ _ _ _ hne)
theorem PL.made (w : World) (n : Nat) : PL (w.alloc (.cells (madeCells #[.int .u64 0] n) 37)) w.heap.size n (fun _ => false) := by
  refine ⟨madeCells #[.int .u64 0] n, alloc_last w _, size_madeCells _ _, fun i hi => ?_⟩
  unfold madeCells
  rw [Array.getElem?_map, Array.getElem?_range, if_pos hi, sw_zero]
  simp [Nat.mod_one]
end Go.Proofs.YtoodpajbefffhaaDoor
/- Longest and shortest matches: what follows of them (pure). -/
namespace Go.Proofs.YtoodpajbefffhaaDoor
open Go.RowKit

/-- The least place below n, the greatest. -/
def lea (P : Nat → Bool) (n : Nat) : Nat × Bool := match (List.range n).find? P with
  | some k => (k, true)
  | none => (0, false)
theorem lea_some {P : Nat → Bool} {n k : Nat} (hk : k < n) (hp : P k = true) (hl : ∀ j, j < k → P j = false) : lea P n = (k, true) := by
  have h : (List.range n).find? P = some k := by
    rw [List.find?_range_eq_some]
    exact ⟨hp, by simpa using hk, fun j hj => by rw [hl j hj]; rfl⟩
  unfold lea
  rw [h]
theorem lea_none {P : Nat → Bool} {n : Nat} (hl : ∀ j, j < n → P j = false) : lea P n = (0, false) := by
  have h : (List.range n).find? P = none := by
    rw [List.find?_range_eq_none]
    exact fun j hj => by rw [hl j hj]; rfl
  unfold lea
  rw [h]
theorem least_of (P : Nat → Bool) : ∀ n, (∃ k, k < n ∧ P k = true ∧ ∀ j, j < k → P j = false) ∨ ∀ j, j < n → P j = false
  | 0 => Or.inr fun j hj => absurd hj (by omega)
  | n + 1 => by
    rcases least_of P n with ⟨k, h1, h2, h3⟩ | h
    · exact Or.inl ⟨k, by omega, h2, h3⟩
    · cases hp : P n
      · right
        intro j hj
        by_cases hjn : j = n
        · rw [hjn]; exact hp
        · exact h j (by omega)
      · exact Or.inl ⟨n, by omega, hp, h⟩
theorem lea_cases (P : Nat → Bool) (n : Nat) : (∃ k, k < n ∧ P k = true ∧ (∀ j, j < k → P j = false) ∧ lea P n = (k, true)) ∨ ((∀ j, j < n → P j = false) ∧ lea P n = (0, false)) := by
  rcases least_of P n with ⟨k, h1, h2, h3⟩ | h
  · exact Or.inl ⟨k, h1, h2, h3, lea_some h1 h2 h3⟩
  · exact Or.inr ⟨h, lea_none h⟩
def mtc (ps : List Pc) (s : List Int) : Bool := epl ps s s.length
end Go.Proofs.YtoodpajbefffhaaDoor
/- Contracts of noPlaces, add, has, least, greatest, outermost. -/
namespace Go.Proofs.YtoodpajbefffhaaDoor
open Go.RowKit

set_option maxRecDepth 100000 in
set_option maxHeartbeats 4000000 in
theorem noPlaces_any (len : Nat) (hl : len ≤ 140737488355328) (w : World) :
    Calls Tryd.prog 39 #[.int .i64 len] w fun e w' => e = .returned (.slice (some ⟨w.heap.size, 0, none⟩) (len / 64 + 1) (len / 64 + 1)) ∧ w' = w.alloc (.cells (madeCells #[.int .u64 0] (len / 64 + 1)) 37) := by
  obtain ⟨i1, ki, kz0, kz1, kz2⟩ := info_parts u64_row
  have hn : ((len : Int) / 64 + 1) = ((len / 64 + 1 : Nat) : Int) := by omega
  have hb : len / 64 + 1 ≤ 2199023255553 := by omega
  generalize len / 64 + 1 = n at *
  go_enter Tryd.func39, Tryd.ntmps39
  go_wp2_with (at_make; refine wpList_make_row _ rfl _ _ 67 rfl 37 i1 (.int .u64 0) Tryd.underlying67 ki kz0 kz1 rfl _ _ n rfl rfl (by rw [kz2]; omega) (by omega) ?_)
  go_ret
  exact ⟨rfl, rfl⟩

theorem plus_set {w : World} {b n : Nat} {P : Nat → Bool} (h : PL w b n P) (i j : Nat) (hj : j < 64) : PL (w.setCell ⟨b, i, none⟩ (.int .u64 (sw (plus P (64 * i + j)) i : Nat))) b n (plus P (64 * i + j)) :=
  h.set i _ fun k _ hk => (sw_plus_other P _ k (by omega)).symm

set_option maxRecDepth 100000 in
set_option maxHeartbeats 8000000 in
theorem addP_any (b n place : Nat) (P : Nat → Bool) (w : World) (h : PL w b n P) (hp : place / 64 < n) (hn : n ≤ 2199023255553) :
    Calls Tryd.prog 40 #[.slice (some ⟨b, 0, none⟩) n n, .int .i64 place] w fun e w' => e = .returned (.tuple #[]) ∧ PL w' b n (plus P place) ∧ w.grownBy w' (some b) := by
  obtain ⟨i, hi⟩ : ∃ i, i = place / 64 := ⟨_, rfl⟩
  obtain ⟨j, hj⟩ : ∃ j, j = place % 64 := ⟨_, rfl⟩
  have hj64 : j < 64 := by omega
  have HP : Hid (place = 64 * i + j) := Lib.hid (by omega)
  have hq : (place : Int) / 64 = i := by omega
  have hr : (place : Int) % 64 = j := by omega
  have hin : i < n := by omega
  have hw := sw_plus P i j hj64
  have hpw := pow_wrap j hj64
  have HPL := Lib.hid h
  have hc := h.cell hin
  have hf := h.free i
  have hz := h.lt
  clear hi hj h hp
  go_enter Tryd.func40, Tryd.ntmps40
  go_wp2
  go_region
  all_goals
    go_wp2
    go_end0
    exact ⟨rfl, by rw [HP.out]; exact PL.drew (plus_set HPL.out i j hj64), ⟨rfl, rfl, rfl, by simp [World.setCell, World.drew], fun k _ hne => Below.heap_setCell _ _ _ _ (by simpa using hne)⟩⟩

set_option maxRecDepth 100000 in
set_option maxHeartbeats 4000000 in
theorem hasP_any (b n place : Nat) (P : Nat → Bool) (w : World) (h : PL w b n P) (hp : place / 64 < n) (hn : n ≤ 2199023255553) :
    Calls Tryd.prog 31 #[.slice (some ⟨b, 0, none⟩) n n, .int .i64 place] w fun e w' => e = .returned (.bool (P place)) ∧ w' = w := by
  obtain ⟨i, hi⟩ : ∃ i, i = place / 64 := ⟨_, rfl⟩
  obtain ⟨j, hj⟩ : ∃ j, j = place % 64 := ⟨_, rfl⟩
  have hj64 : j < 64 := by omega
  have hs := sw_bit P i j hj64
  rw [show 64 * i + j = place by omega] at hs
  have hq : (place : Int) / 64 = i := by omega
  have hr : (place : Int) % 64 = j := by omega
  have hin : i < n := by omega
  have hc := h.cell hin
  have hz := h.lt
  clear hi hj h hp
  generalize sw P i = x at *
  cases hP : P place
  all_goals
    rw [hP] at hs
    simp only [Bool.toNat_true, Bool.toNat_false] at hs
    clear hP
    go_enter Tryd.func31, Tryd.ntmps31
    go_wp2
    go_ret
    exact ⟨rfl, rfl⟩

theorem sw_noneOf (p : Nat → Bool) (i : Nat) (h : sw p i = 0) : ∀ j, j / 64 = i → p j = false := fun j hj => by
  have e := congrArg (·.testBit (j % 64)) h
  simp only [sw, wd_testBit, Nat.zero_testBit] at e
  rw [decide_eq_true (by omega : j % 64 < 64), Bool.true_and, show 64 * i + j % 64 = j by omega] at e
  exact e
theorem lea_at (P : Nat → Bool) (n k : Nat) (hk : k < n) (h : ∀ i, i < k → sw P i = 0) (h0 : sw P k ≠ 0) : lea P (64 * n) = (k * 64 + Lib.ctz 64 (sw P k), true) := by
  obtain ⟨hc, hq, hl⟩ := ctz_least (fun j => P (64 * k + j)) h0
  have e : wd (fun j => P (64 * k + j)) = sw P k := rfl
  rw [e] at hc hq hl
  refine lea_some (by omega) (by rw [Nat.mul_comm]; exact hq) fun j hj => ?_
  rcases Nat.lt_or_ge (j / 64) k with hlt | hge
  · exact sw_noneOf P (j / 64) (h _ hlt) j rfl
  · have := hl (j % 64) (by omega)
    rwa [show 64 * k + j % 64 = j by omega] at this
theorem lea_no (P : Nat → Bool) (n : Nat) (h : ∀ i, i < n → sw P i = 0) : lea P (64 * n) = (0, false) :=
  lea_none fun j hj => sw_noneOf P (j / 64) (h _ (by omega)) j rfl

set_option maxRecDepth 100000 in
set_option maxHeartbeats 8000000 in
theorem leastP_any (b n : Nat) (P : Nat → Bool) (w : World) (hT : TZ w) (h : PL w b n P) (hn : n ≤ 2199023255553) :
    Calls Tryd.prog 41 #[.slice (some ⟨b, 0, none⟩) n n] w fun e w' => e = .returned (.tuple #[.int .i64 ((lea P (64 * n)).1 : Nat), .bool (lea P (64 * n)).2]) ∧ w' = w := by
  have HT := Lib.hid hT
  have HPL := Lib.hid h
  clear hT h
  go_enter Tryd.func41, Tryd.ntmps41
  go_wp2_with fail
  go_loop [8] (fun i => ∃ k : Nat, k ≤ n ∧ i = .int .i64 k ∧ ∀ j, j < k → sw P j = 0) (fun i => n - (intOf i).toNat)
  case atStart => exact ⟨0, Nat.zero_le _, rfl, fun j hj => absurd hj (by omega)⟩
  case round =>
    obtain ⟨k, hk, rfl, hno⟩ := hrel
    have HNO := Lib.hid hno
    clear hno
    by_cases hlt : k < n
    · have hc := HPL.out.cell hlt
      have hz := HPL.out.lt
      by_cases h0 : sw P k = 0
      · have HN2 : Hid (∀ j, j < k + 1 → sw P j = 0) := Lib.hid fun j hj => by
          by_cases hjk : j = k
          · rw [hjk]; exact h0
          · exact HNO.out j (by omega)
        have h1 : (((sw P k : Nat) : Int) == 0) = true := by rw [h0]; rfl
        have h2 : (((sw P k : Nat) : Int) != 0) = false := by rw [h0]; rfl
        clear h0
        generalize sw P k = x at *
        go_wp2_with fail
        go_round
        case rel => exact ⟨k + 1, by omega, by go_num, HN2.out⟩
        case measure => simp [intOf]; omega
      · have HL := Lib.hid (lea_at P n k hlt HNO.out h0)
        have HC := Lib.hid (tz_any (sw P k) (wd_lt _) h0 w HT.out)
        obtain ⟨hc64, _, _⟩ := ctz_least (fun j => P (64 * k + j)) h0
        have e : wd (fun j => P (64 * k + j)) = sw P k := rfl
        rw [e] at hc64
        have h1 : (((sw P k : Nat) : Int) == 0) = false := by simp; omega
        have h2 : (((sw P k : Nat) : Int) != 0) = true := by simp; omega
        clear h0 e
        generalize Lib.ctz 64 (sw P k) = c at *
        generalize sw P k = x at *
        go_wp2_with fail
        refine HC.out.mono ?_
        rintro e w1 ⟨rfl, rfl⟩
        go_wp2
        go_ret2
        exact ⟨by rw [HL.out]; simp, rfl⟩
    · have HL := Lib.hid (lea_no P n (fun i hi => HNO.out i (by omega)))
      go_wp2
      go_ret2
      exact ⟨by rw [HL.out]; rfl, rfl⟩
end Go.Proofs.YtoodpajbefffhaaDoor
/- Contracts of greatest, outermost, fill. -/
namespace Go.Proofs.YtoodpajbefffhaaDoor
open Go.RowKit

/-- All places from the first to the last. -/
def betw (a z k : Nat) : Bool := decide (a ≤ k) && decide (k ≤ z)
def fromP (a k : Nat) : Bool := decide (a ≤ k)
/-- The words that are filled so far. -/
def fillP (a i k : Nat) : Bool := decide (a / 64 ≤ k / 64) && decide (k / 64 < i)
theorem sw_full (P : Nat → Bool) (i : Nat) (h : ∀ j, j < 64 → P (64 * i + j) = true) : sw P i = 18446744073709551615 := by
  rw [← wd_full]
  exact wd_congr fun j hj => h j hj
theorem shl_full (j : Nat) (hj : j < 64) : IntKind.u64.wrap (18446744073709551615 * (2 : Int) ^ j) = ((wd fun t => decide (j ≤ t) : Nat) : Int) := by
  have h : 2 ^ j < 2 ^ 64 := Nat.pow_lt_pow_right (by decide) hj
  have h1 := Nat.two_pow_pos j
  have e : wd (fun t => decide (j ≤ t)) = 18446744073709551616 - 2 ^ j := by
    have h2 := full_sub (fun t => decide (t < j))
    rw [← wd_below j (by omega)] at h2
    rw [show (fun t => !decide (t < j)) = (fun t => decide (j ≤ t)) from by funext t; rw [Bool.eq_iff_iff]; simp] at h2
    omega
  have e2 : ((2 : Int) ^ j) = ((2 ^ j : Nat) : Int) := by simp
  rw [e, e2, IntKind.wrap_u64]
  generalize 2 ^ j = y at *
  omega
theorem shr_full (j m : Nat) (hj : j < 64) (hm : m = 63 - j) : (18446744073709551615 : Int) / 2 ^ m = ((wd fun t => decide (t ≤ j) : Nat) : Int) := by
  subst hm
  have e : wd (fun t => decide (t ≤ j)) = 2 ^ (j + 1) - 1 := by
    rw [wd_below (j + 1) (by omega)]
    exact wd_congr fun t _ => by rw [Bool.eq_iff_iff]; simp; omega
  rw [e]
  have h1 := Nat.two_pow_pos (63 - j)
  have h2 : 2 ^ (j + 1) * 2 ^ (63 - j) = 18446744073709551616 := by rw [← Nat.pow_add, show j + 1 + (63 - j) = 64 by omega]
  have e3 : 18446744073709551615 / 2 ^ (63 - j) = 2 ^ (j + 1) - 1 := by
    rw [Nat.div_eq_iff h1]
    have h3 := Nat.two_pow_pos (j + 1)
    constructor
    · rw [Nat.sub_mul, h2]; omega
    · rw [Nat.sub_mul, h2]; omega
  have e2 : ((2 : Int) ^ (63 - j)) = ((2 ^ (63 - j) : Nat) : Int) := by simp
  rw [e2, show (18446744073709551615 : Int) = ((18446744073709551615 : Nat) : Int) from rfl, ← Int.natCast_ediv, e3]
end Go.Proofs.YtoodpajbefffhaaDoor
namespace Go.Proofs.YtoodpajbefffhaaDoor
open Go.RowKit

theorem gb_refl (w : World) (b : Nat) : w.grownBy w (some b) := ⟨rfl, rfl, rfl, Nat.le_refl _, fun _ _ _ => rfl⟩
theorem gb_trans {w w' w'' : World} {b : Nat} (h : w.grownBy w' (some b)) (g : w'.grownBy w'' (some b)) : w.grownBy w'' (some b) :=
  ⟨g.os.trans h.os, g.tape.trans h.tape, g.output.trans h.output, Nat.le_trans h.size g.size, fun k hk hne => (g.block k (Nat.lt_of_lt_of_le hk h.size) hne).trans (h.block k hk hne)⟩
theorem gb_set {w w' : World} {b : Nat} (h : w.grownBy w' (some b)) (i : Nat) (y : Value) : w.grownBy (w'.setCell ⟨b, i, none⟩ y) (some b) := gb_trans h (grown_set w' b i y)
theorem gb_drew {w w' : World} {b : Nat} (h : w.grownBy w' (some b)) : w.grownBy w'.drew (some b) := ⟨h.os, h.tape, h.output, h.size, h.block⟩
theorem sw_congrP {P Q : Nat → Bool} {i : Nat} (h : ∀ k, k / 64 = i → P k = Q k) : sw P i = sw Q i := wd_congr fun j hj => h _ (by omega)
def andP (P : Nat → Bool) (Q : Nat → Bool) (k : Nat) : Bool := P k && Q k
theorem and_from (P : Nat → Bool) (a i j : Nat) (ha : a = 64 * i + j) : bits .and .u64 (sw P i : Int) ((wd fun t => decide (j ≤ t) : Nat) : Int) = (sw (andP P (fromP a)) i : Nat) := by
  refine (wd_and _ _).trans (congrArg (Nat.cast (R := Int)) (wd_congr fun t _ => ?_))
  unfold andP fromP
  congr 1
  rw [Bool.eq_iff_iff]; simp; omega
def uptoP (z k : Nat) : Bool := decide (k ≤ z)
theorem and_upto (P : Nat → Bool) (z i j : Nat) (hz : z = 64 * i + j) : bits .and .u64 (sw P i : Int) ((wd fun t => decide (t ≤ j) : Nat) : Int) = (sw (andP P (uptoP z)) i : Nat) := by
  refine (wd_and _ _).trans (congrArg (Nat.cast (R := Int)) (wd_congr fun t _ => ?_))
  unfold andP uptoP
  congr 1
  rw [Bool.eq_iff_iff]; simp; omega
theorem PL.and_set {w : World} {b n : Nat} {P : Nat → Bool} (h : PL w b n P) (Q : Nat → Bool) (i : Nat) (hq : ∀ k, k / 64 < n → k / 64 ≠ i → (P k && Q k) = P k) : PL (w.setCell ⟨b, i, none⟩ (.int .u64 (sw (andP P Q) i : Nat))) b n (andP P Q) :=
  h.set i _ fun k hk hne => sw_congrP fun t ht => (hq t (by omega) (by omega)).symm

set_option maxRecDepth 100000 in
set_option maxHeartbeats 8000000 in
theorem fill_any (b n a z : Nat) (w : World) (h : PL w b n (fun _ => false)) (haz : a ≤ z) (hzn : z / 64 + 1 = n) (hn : n ≤ 2199023255553) :
    Calls Tryd.prog 42 #[.slice (some ⟨b, 0, none⟩) n n, .int .i64 a, .int .i64 z] w fun e w' => e = .returned (.tuple #[]) ∧ PL w' b n (betw a z) ∧ w.grownBy w' (some b) := by
  obtain ⟨i0, hi0⟩ : ∃ i, i = a / 64 := ⟨_, rfl⟩
  obtain ⟨j0, hj0⟩ : ∃ j, j = a % 64 := ⟨_, rfl⟩
  obtain ⟨i1, hi1⟩ : ∃ i, i = z / 64 := ⟨_, rfl⟩
  obtain ⟨j1, hj1⟩ : ∃ j, j = z % 64 := ⟨_, rfl⟩
  obtain ⟨m1, hm1⟩ : ∃ m, m = 63 - j1 := ⟨_, rfl⟩
  have hj064 : j0 < 64 := by omega
  have hj164 : j1 < 64 := by omega
  have hq0 : (a : Int) / 64 = i0 := by omega
  have hr0 : (a : Int) % 64 = j0 := by omega
  have hq1 : (z : Int) / 64 = i1 := by omega
  have hr1 : (z : Int) % 64 = j1 := by omega
  have hmm : (63 : Int) - (j1 : Int) = (m1 : Int) := by omega
  have hm64 : m1 < 64 := by omega
  have hs0 := shl_full j0 hj064
  have hs1 := shr_full j1 m1 hj164 hm1
  have HA0 := Lib.hid (fun P => and_from P a i0 j0 (by omega))
  have HA1 := Lib.hid (fun P => and_upto P z i1 j1 (by omega))
  obtain ⟨x0, hx0⟩ : ∃ x, x = wd fun t => decide (j0 ≤ t) := ⟨_, rfl⟩
  obtain ⟨x1, hx1⟩ : ∃ x, x = wd fun t => decide (t ≤ j1) := ⟨_, rfl⟩
  rw [← hx0] at hs0 HA0
  rw [← hx1] at hs1 HA1
  have hle : i0 ≤ i1 := by omega
  have hlt1 : i1 < n := by omega
  have hlt0 : i0 < n := by omega
  have HZN : Hid (i1 + 1 = n) := Lib.hid (by omega)
  have HI0 := Lib.hid hi0
  have HI1 := Lib.hid hi1
  have HR0 : Hid (a = 64 * i0 + j0) := Lib.hid (by omega)
  have HR1 : Hid (z = 64 * i1 + j1) := Lib.hid (by omega)
  have HP0 : Hid (PL w b n (fillP a i0)) := Lib.hid (h.congr fun i hi => sw_congrP fun k hk => by
    unfold fillP
    rw [← HI0.out]
    by_cases h1 : i0 ≤ k / 64
    · rw [decide_eq_false (by omega : ¬ k / 64 < i0), Bool.and_false]
    · rw [decide_eq_false h1, Bool.false_and])
  have HHS0 := Lib.hid hs0
  have HHS1 := Lib.hid hs1
  clear hi0 hj0 hi1 hj1 hm1 hx0 hx1 h hzn haz hs0 hs1
  go_enter Tryd.func42, Tryd.ntmps42
  go_wp2_with fail
  go_loopw [6] (fun i wr => ∃ k : Nat, i0 ≤ k ∧ k ≤ n ∧ i = .int .i64 k ∧ PL wr b n (fillP a k) ∧ w.grownBy wr (some b)) (fun i _ => n - (intOf i).toNat)
  case atStart => exact ⟨i0, Nat.le_refl _, by omega, rfl, HP0.out, gb_refl w b⟩
  case round =>
    obtain ⟨k, hk0, hk, rfl, hpl, hgb⟩ := hrel
    have HPL := Lib.hid hpl
    have HGB := Lib.hid hgb
    clear hpl hgb
    have hz := HPL.out.lt
    by_cases hlt : k < n
    · have hc := HPL.out.cell hlt
      have hf := HPL.out.free k
      have HN2 : Hid (PL (wr.setCell ⟨b, k, none⟩ (.int .u64 18446744073709551615)) b n (fillP a (k + 1))) := Lib.hid (by
        have hfull : sw (fillP a (k + 1)) k = 18446744073709551615 := sw_full _ _ fun j hj => by
          unfold fillP
          rw [← HI0.out]
          simp; omega
        have := HPL.out.set k (fillP a (k + 1)) fun i hi hne => sw_congrP fun t ht => by
          unfold fillP
          congr 1
          rw [Bool.eq_iff_iff]; simp; omega
        rw [hfull] at this
        exact this)
      go_wp2_with fail
      go_roundw
      case rel => exact ⟨k + 1, by omega, by omega, by go_num, HN2.out, gb_set HGB.out _ _⟩
      case measure => simp [intOf]; omega
    · obtain rfl : k = n := by omega
      have c0 := HPL.out.cell hlt0
      have f0 := HPL.out.free i0
      have c1 := HPL.out.cell hlt1
      have f1 := HPL.out.free i1
      have a0 := HA0.out (fillP a k)
      have a1 := HA1.out (andP (fillP a k) (fromP a))
      have s0 := HHS0.out
      have s1 := HHS1.out
      have HP2 : Hid (PL (wr.setCell ⟨b, i0, none⟩ (.int .u64 (sw (andP (fillP a k) (fromP a)) i0 : Nat))) b k (andP (fillP a k) (fromP a))) := Lib.hid (HPL.out.and_set _ i0 fun t ht hne => by
        unfold fillP fromP
        have := HR0.out
        rw [Bool.eq_iff_iff]; simp; omega)
      have HP3 : Hid (∀ W, PL W b k (andP (fillP a k) (fromP a)) → PL (W.setCell ⟨b, i1, none⟩ (.int .u64 (sw (andP (andP (fillP a k) (fromP a)) (uptoP z)) i1 : Nat))) b k (betw a z)) := Lib.hid fun W hW => by
        have h0 := HR0.out
        have h1 := HR1.out
        have h2 := HZN.out
        have := hW.and_set (uptoP z) i1 fun t ht hne => by
          unfold andP fillP fromP uptoP
          rw [Bool.eq_iff_iff]; simp; omega
        refine this.congr fun i hi => sw_congrP fun t ht => ?_
        unfold andP fillP fromP uptoP betw
        rw [Bool.eq_iff_iff]; simp; omega
      by_cases he : i1 = i0
      · subst he
        generalize sw (fillP a k) i1 = y0 at *
        generalize sw (andP (fillP a k) (fromP a)) i1 = y1 at *
        generalize sw (andP (andP (fillP a k) (fromP a)) (uptoP z)) i1 = y2 at *
        go_wp2_with fail
        go_region
        all_goals
          go_wp2_with fail
          go_region
          all_goals
            go_wp2
            go_end0
            exact ⟨rfl, HP3.out _ HP2.out, gb_drew (gb_drew (gb_set (gb_set HGB.out _ _) _ _))⟩
      · have c2 : sw (andP (fillP a k) (fromP a)) i1 = sw (fillP a k) i1 := sw_congrP fun t ht => by
          unfold andP fillP fromP
          have := HR0.out
          rw [Bool.eq_iff_iff]; simp; omega
        rw [c2] at a1
        clear c2
        generalize sw (fillP a k) i0 = y0 at *
        generalize sw (fillP a k) i1 = y3 at *
        generalize sw (andP (fillP a k) (fromP a)) i0 = y1 at *
        generalize sw (andP (andP (fillP a k) (fromP a)) (uptoP z)) i1 = y2 at *
        go_wp2_with fail
        go_region
        all_goals
          go_wp2_with fail
          go_region
          all_goals
            go_wp2
            go_end0
            exact ⟨rfl, HP3.out _ HP2.out, gb_drew (gb_drew (gb_set (gb_set HGB.out _ _) _ _))⟩
end Go.Proofs.YtoodpajbefffhaaDoor
