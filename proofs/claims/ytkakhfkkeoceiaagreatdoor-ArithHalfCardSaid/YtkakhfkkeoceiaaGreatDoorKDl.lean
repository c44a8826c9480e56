import Derived.Test.YtkakhfkkeoceiaaGreatDoorKPb
import Derived.Lib.ItoaNum
namespace Go.Proofs.YtkakhfkkeoceiaaGreatDoor
open Go.RowKit
def dL (n : Nat) : List Int := (Lib.decDigits n).map fun c => (c.toNat : Int)
theorem d_byte (d : Nat) (h : d < 10) : ((UInt8.ofNat (48 + d)).toNat : Int) = 48 + d := by
 have : (UInt8.ofNat (48 + d)).toNat = 48 + d := by simp; omega
 omega
theorem dL_one {n : Nat} (h : n < 10) : dL n = [48 + (n : Int)] := by
 unfold dL
 rw [Lib.decDigits, dif_pos h]
 simp only [List.map_cons, List.map_nil]
 rw [d_byte n h]
theorem dL_more {n : Nat} (h : ¬ n < 10) : dL n = dL (n / 10) ++ [48 + ((n % 10 : Nat) : Int)] := by
 unfold dL
 rw [Lib.decDigits, dif_neg h, List.map_append]
 simp only [List.map_cons, List.map_nil]
 rw [d_byte (n % 10) (Nat.mod_lt _ (by decide))]
theorem dL_dig (n : Nat) : ∀ c ∈ dL n, 48 ≤ c ∧ c ≤ 57 := by
 induction n using Nat.strongRecOn with
 | ind n ih =>
  intro c hc
  by_cases h : n < 10
  ·rw [dL_one h] at hc
   simp only [List.mem_singleton] at hc
   omega
  ·rw [dL_more h] at hc
   rcases List.mem_append.1 hc with hc | hc
   ·exact ih (n / 10) (by omega) c hc
   ·simp only [List.mem_singleton] at hc
    omega
theorem dL_pos (n : Nat) : 0 < (dL n).length := by
 by_cases h : n < 10
 ·rw [dL_one h]; simp
 ·rw [dL_more h]; simp
theorem dL_head (n : Nat) (hn : 0 < n) : (dL n).getD 0 0 ≠ 48 := by
 induction n using Nat.strongRecOn with
 | ind n ih =>
  by_cases h : n < 10
  ·rw [dL_one h]; simp only [List.getD_cons_zero]; omega
  ·rw [dL_more h, getD_app_lt _ _ _ (dL_pos _)]
   exact ih (n / 10) (by omega) (by omega)
theorem dL_val (n : Nat) : val 10 (dL n) = n := by
 induction n using Nat.strongRecOn with
 | ind n ih =>
  by_cases h : n < 10
  ·rw [dL_one h]
   unfold val
   simp only [List.foldl_cons, List.foldl_nil]
   unfold dgt
   rw [if_pos (by omega)]
   omega
  ·rw [dL_more h]
   have := ih (n / 10) (by omega)
   unfold val at this ⊢
   rw [List.foldl_append, this]
   simp only [List.foldl_cons, List.foldl_nil]
   unfold dgt
   rw [if_pos (by omega)]
   omega
def Ends (r : List Int) : Prop := ∀ x m, r = x :: m → numB x = false ∧ letB x = false
theorem Ends.nil : Ends [] := fun _ _ h => by cases h
theorem Ends.cons {x : Int} {m : List Int} (h : numB x = false ∧ letB x = false) : Ends (x :: m) := fun _ _ e => by
 simp only [List.cons.injEq] at e
 obtain ⟨rfl, rfl⟩ := e
 exact h
theorem dgt_big {x : Int} (h : numB x = false) : 10 ≤ dgt x := by
 unfold numB at h
 simp only [decide_eq_false_iff_not] at h
 unfold dgt
 rw [if_neg h]
 split
 ·omega
 ·split <;> omega
theorem pre_mem (p : Int → Bool) (r : List Int) (hr : ∀ x m, r = x :: m → p x = false) : ∀ l : List Int, (∀ c ∈ l, p c = true) → pre p (l ++ r) = l.length
 | [], _ => by
  cases r with
  | nil => rfl
  | cons x m => simp [pre, hr x m rfl]
 | c :: l, h => by
  have := pre_mem p r hr l fun d hd => h d (by simp [hd])
  unfold pre at this ⊢
  rw [List.cons_append, List.takeWhile_cons_of_pos (h c (by simp)), List.length_cons, List.length_cons, this]
theorem nmN_zero {r : List Int} (h : ∀ x m, r = x :: m → letB x = false) : nmN r = 0 :=
 (stopN_is _ _).same ⟨Nat.zero_le _, fun j hj => absurd hj (by omega), fun hl => by
  cases r with
  | nil => simp at hl
  | cons x m => simp [nameB, h x m rfl]⟩
theorem cN_zero {r : List Int} (h : ∀ x m, r = x :: m → numB x = false) : cN r = 0 := by
 cases r with
 | nil => simp [cN, hexB, cB, gN, rN, pre]
 | cons x m =>
  have hx := h x m rfl
  have hd := dgt_big hx
  have h48 : x ≠ 48 := by rintro rfl; simp [numB] at hx
  have e1 : hexB (x :: m) = false := by simp [hexB, h48]
  have e2 : cB (x :: m) = 10 := by simp [cB, h48]
  unfold cN
  rw [e1, e2]
  simp only [Bool.false_eq_true, if_false]
  unfold gN
  rw [if_pos (by omega)]
  unfold rN pre
  have : dig? 10 x = false := by unfold dig?; simpa using hd
  rw [List.takeWhile_cons_of_neg (by rw [this]; decide)]
  rfl
theorem num_let {c : Int} (h : 48 ≤ c ∧ c ≤ 57) : letB c = false := by unfold letB; simp; omega
theorem dL_cons (n : Nat) : ∃ d ds, dL n = d :: ds ∧ 48 ≤ d ∧ d ≤ 57 := by
 cases h : dL n with
 | nil => have := dL_pos n; rw [h] at this; simp at this
 | cons d ds => exact ⟨d, ds, rfl, dL_dig n d (by rw [h]; simp)⟩
theorem dec_read (n : Nat) (hn : n ≤ 9223372036854775807) (r : List Int) (hr : Ends r) : cN (dL n ++ r) = (dL n).length ∧ cV (dL n ++ r) = n ∧ cO (dL n ++ r) = false := by
 have hp : ∀ b : Int, 8 ≤ b → b ≤ 10 → (∀ c ∈ dL n, dgt c < b) → rN b (dL n ++ r) = (dL n).length := fun b hb hb2 hd =>
  pre_mem (dig? b) r (fun x m e => by
   have := dgt_big (hr x m e).1
   unfold dig?
   simp
   omega) (dL n) (fun c hc => by
   unfold dig?
   simpa using hd c hc)
 have h10 : ∀ c ∈ dL n, dgt c < 10 := fun c hc => by
  have := dL_dig n c hc
  unfold dgt
  rw [if_pos this]
  omega
 have hex : hexB (dL n ++ r) = false := by
  by_cases hz : n = 0
  ·subst hz
   rw [dL_one (by omega)]
   cases r with
   | nil => simp [hexB]
   | cons x m =>
    have h1 := (hr x m rfl).2
    have h2 : x ≠ 120 ∧ x ≠ 88 := by
     refine ⟨?_, ?_⟩ <;> (rintro rfl; simp [letB] at h1)
    simp [hexB, h2.1, h2.2]
  ·have h1 := dL_head n (by omega)
   have h2 : (dL n ++ r).getD 0 0 ≠ 48 := by rw [getD_app_lt _ _ _ (dL_pos n)]; exact h1
   have h3 : ((dL n ++ r).getD 0 0 == 48) = false := by simpa using h2
   unfold hexB
   rw [h3, Bool.and_false, Bool.false_and, Bool.false_and]
 have key : ∀ b : Int, 8 ≤ b → b ≤ 10 → (∀ c ∈ dL n, dgt c < b) → val b (dL n) = n → gN b (dL n ++ r) = (dL n).length ∧ gV b (dL n ++ r) = n ∧ gO b (dL n ++ r) = false := by
  intro b hb hb2 hd hv
  have hN := hp b hb hb2 hd
  have hK : valK b (dL n ++ r) (dL n).length = n := by unfold valK; rw [List.take_left]; exact hv
  refine ⟨?_, ?_, ?_⟩
  ·unfold gN; rw [if_pos (by omega), hN]
  ·unfold gV rV; rw [if_pos (by omega), hN, hK]; unfold cut; rw [if_pos (by omega)]
  ·unfold gO rO; rw [if_pos (by omega), hN, hK]; unfold ovr; simp; omega
 have hkey : gN (cB (dL n ++ r)) (dL n ++ r) = (dL n).length ∧ gV (cB (dL n ++ r)) (dL n ++ r) = n ∧ gO (cB (dL n ++ r)) (dL n ++ r) = false := by
  by_cases hz : n = 0
  ·subst hz
   have e : cB (dL 0 ++ r) = 8 := by rw [dL_one (by omega)]; simp [cB]
   rw [e]
   refine key 8 (by omega) (by omega) ?_ ?_
   ·rw [dL_one (by omega)]; simp [dgt]
   ·rw [dL_one (by omega)]; simp [val, dgt]
  ·have h1 := dL_head n (by omega)
   have h2 : (dL n ++ r).getD 0 0 ≠ 48 := by rw [getD_app_lt _ _ _ (dL_pos n)]; exact h1
   have e : cB (dL n ++ r) = 10 := by unfold cB; rw [if_neg h2]
   rw [e]
   exact key 10 (by omega) (by omega) h10 (dL_val n)
 unfold cN cV cO
 rw [hex]
 exact hkey
theorem tokL_dec (n : Nat) (hn : n ≤ 9223372036854775807) (r : List Int) (hr : Ends r) (q : Nat) : tokL (dL n ++ r) q = ⟨2, q, q + (dL n).length, sEmpty, n, false⟩ := by
 obtain ⟨d, ds, hd, hd1⟩ := dL_cons n
 have h0 : 0 < (dL n ++ r).length := by have := dL_pos n; simp; omega
 have h1 : nmN (dL n ++ r) = 0 := nmN_zero fun x m e => by
  rw [hd] at e
  simp only [List.cons_append, List.cons.injEq] at e
  rw [← e.1]
  exact num_let hd1
 obtain ⟨h2, h3, h4⟩ := dec_read n hn r hr
 rw [tk_cn h0 (by omega) (by rw [h2]; exact dL_pos n), h2, h3, h4]
def opTail : List UInt8 := [61, 60, 62, 38, 124]
def OpEnds (r : List Int) : Prop := ∀ x m, r = x :: m → 0 ≤ x ∧ x ≤ 255 ∧ x ≠ 61 ∧ x ≠ 60 ∧ x ≠ 62 ∧ x ≠ 38 ∧ x ≠ 124
theorem ops_tail : ∀ s ∈ opList, ∀ o ∈ opList, o.size < s.size → s.data.toList.take o.size = o.data.toList → (s.data.toList.getD o.size 0) ∈ opTail := by decide
theorem ops_apart : ∀ i : Fin 35, ∀ j : Fin 35, j.val < i.val → (opList.getD j.val sEmpty).size ≤ (opList.getD i.val sEmpty).size → (opList.getD i.val sEmpty).data.toList.take (opList.getD j.val sEmpty).size ≠ (opList.getD j.val sEmpty).data.toList := by decide
theorem bys_map (s : ByteArray) : (bys s).map (fun n => UInt8.ofNat n.toNat) = s.data.toList := by
 have := congrArg (fun t : ByteArray => t.data.toList) (ofBys_bys s)
 exact this
theorem begins_iff (l : List Int) (s : ByteArray) : begins l s = true ↔ s.size ≤ l.length ∧ (l.take s.size).map (fun n => UInt8.ofNat n.toNat) = s.data.toList := by
 unfold begins
 simp only [Bool.and_eq_true, decide_eq_true_eq]
 refine and_congr_right fun _ => ⟨fun h => ?_, fun h => ?_⟩
 ·exact congrArg (fun t : ByteArray => t.data.toList) h
 ·obtain ⟨d⟩ := s
  unfold ofBys
  congr 1
  apply Array.toList_inj.1
  exact h
theorem begins_self (o : ByteArray) (r : List Int) : begins (bys o ++ r) o = true := by
 rw [begins_iff]
 have hl : (bys o).length = o.size := bys_length o
 refine ⟨by rw [List.length_append]; omega, ?_⟩
 rw [← hl, List.take_left, bys_map]
theorem begins_not (i : Nat) (hi : i < 35) (j : Nat) (hj : j < i) (r : List Int) (hr : OpEnds r) : begins (bys (opList.getD i sEmpty) ++ r) (opList.getD j sEmpty) = false := by
 cases hb : begins (bys (opList.getD i sEmpty) ++ r) (opList.getD j sEmpty) with
 | false => rfl
 | true =>
  exfalso
  rw [begins_iff] at hb
  obtain ⟨h1, h2⟩ := hb
  have hl : (bys (opList.getD i sEmpty)).length = (opList.getD i sEmpty).size := bys_length _
  have hmi : opList.getD i sEmpty ∈ opList := by
   have : i < opList.length := hi
   rw [List.getD, List.getElem?_eq_getElem this]
   exact List.getElem_mem _
  have hmj : opList.getD j sEmpty ∈ opList := by
   have : j < opList.length := by show j < 35; omega
   rw [List.getD, List.getElem?_eq_getElem this]
   exact List.getElem_mem _
  have ha := ops_apart ⟨i, hi⟩ ⟨j, by omega⟩ hj
  simp only [] at ha
  have ht := ops_tail _ hmj _ hmi
  generalize opList.getD i sEmpty = o at *
  generalize opList.getD j sEmpty = s at *
  by_cases hs : s.size ≤ o.size
  ·rw [List.take_append_of_le_length (by omega), List.map_take, bys_map] at h2
   exact ha hs h2
  ·rw [List.take_append, List.map_append, List.take_of_length_le (by omega), bys_map, hl] at h2
   cases r with
   | nil =>
    rw [List.length_append, List.length_nil] at h1
    omega
   | cons x m =>
    obtain ⟨k, hk⟩ : ∃ k, s.size - o.size = k + 1 := ⟨s.size - o.size - 1, by omega⟩
    rw [hk, List.take_succ_cons, List.map_cons] at h2
    have hol : o.data.toList.length = o.size := Array.length_toList
    have e1 : s.data.toList.take o.size = o.data.toList := by rw [← h2, ← hol, List.take_left]
    have e2 : s.data.toList.getD o.size 0 = UInt8.ofNat x.toNat := by
     rw [← h2, ← hol]
     simp [List.getD]
    have hm := ht (by omega) e1
    rw [e2] at hm
    obtain ⟨x0, x1, y1, y2, y3, y4, y5⟩ := hr x m rfl
    have hx : (UInt8.ofNat x.toNat).toNat = x.toNat := by simp; omega
    unfold opTail at hm
    simp only [List.mem_cons, List.not_mem_nil, or_false] at hm
    rcases hm with h | h | h | h | h
    all_goals
     rw [h] at hx
     have hx : _ = x.toNat := hx
     simp at hx
     omega
theorem opFrom_at (l : List Int) (i : Nat) : ∀ L : List ByteArray, (∀ j, j < i → begins l (L.getD j sEmpty) = false) → i < L.length → begins l (L.getD i sEmpty) = true → opFrom l L = L.getD i sEmpty := by
 induction i with
 | zero =>
  intro L _ hl hb
  cases L with
  | nil => simp at hl
  | cons s L =>
   simp only [List.getD_cons_zero] at hb ⊢
   unfold opFrom
   rw [if_pos hb]
 | succ i ih =>
  intro L hj hl hb
  cases L with
  | nil => simp at hl
  | cons s L =>
   have h0 := hj 0 (by omega)
   simp only [List.getD_cons_zero] at h0
   unfold opFrom
   rw [if_neg (by rw [h0]; decide)]
   simp only [List.getD_cons_succ] at hb ⊢
   exact ih L (fun j h => by have := hj (j + 1) (by omega); simpa using this) (by simpa using hl) hb
theorem opB_op (i : Nat) (hi : i < 35) (r : List Int) (hr : OpEnds r) : opB (bys (opList.getD i sEmpty) ++ r) = opList.getD i sEmpty :=
 opFrom_at _ i opList (fun j hj => begins_not i hi j hj r hr) hi (begins_self _ r)
theorem ops_head : ∀ s ∈ opList, 0 < s.size ∧ (s.data.toList.all fun c => !(decide (48 ≤ c ∧ c ≤ 57)) && !(decide ((97 ≤ c ∧ c ≤ 122) ∨ (65 ≤ c ∧ c ≤ 90) ∨ c = 95))) = true := by decide
theorem tokL_op (i : Nat) (hi : i < 35) (r : List Int) (hr : OpEnds r) (q : Nat) : tokL (bys (opList.getD i sEmpty) ++ r) q = ⟨4, q, q + (opList.getD i sEmpty).size, opList.getD i sEmpty, 0, false⟩ := by
 have hb := opB_op i hi r hr
 have hm : opList.getD i sEmpty ∈ opList := by
  have : i < opList.length := hi
  rw [List.getD, List.getElem?_eq_getElem this]
  exact List.getElem_mem _
 obtain ⟨hs, hall⟩ := ops_head _ hm
 generalize opList.getD i sEmpty = o at *
 have hl : (bys o).length = o.size := bys_length _
 have h0 : 0 < (bys o ++ r).length := by rw [List.length_append]; omega
 have hne : ¬ o = sEmpty := by rintro rfl; exact absurd hs (by decide)
 have hfirst : ∀ x m, bys o ++ r = x :: m → numB x = false ∧ letB x = false := by
  intro x m e
  cases hc : bys o with
  | nil => rw [hc] at hl; simp at hl; omega
  | cons y ys =>
   rw [hc, List.cons_append] at e
   simp only [List.cons.injEq] at e
   obtain ⟨rfl, _⟩ := e
   have hd : o.data.toList = UInt8.ofNat y.toNat :: (ys.map fun n => UInt8.ofNat n.toNat) := by rw [← bys_map, hc]; rfl
   have hy : y = ((UInt8.ofNat y.toNat).toNat : Int) := by
    have hbt := bys_byt o 0
    rw [hc] at hbt
    simp only [List.getD_cons_zero] at hbt
    simp
    omega
   rw [hd] at hall
   simp only [List.all_cons, Bool.and_eq_true] at hall
   obtain ⟨⟨a1, a2⟩, _⟩ := hall
   generalize UInt8.ofNat y.toNat = c at *
   subst hy
   simp only [Bool.not_eq_true', decide_eq_false_iff_not, UInt8.le_iff_toNat_le, ← UInt8.toNat_inj] at a1 a2
   have z1 : (48 : UInt8).toNat = 48 := rfl
   have z2 : (57 : UInt8).toNat = 57 := rfl
   have z3 : (97 : UInt8).toNat = 97 := rfl
   have z4 : (122 : UInt8).toNat = 122 := rfl
   have z5 : (65 : UInt8).toNat = 65 := rfl
   have z6 : (90 : UInt8).toNat = 90 := rfl
   have z7 : (95 : UInt8).toNat = 95 := rfl
   rw [z1, z2] at a1
   rw [z3, z4, z5, z6, z7] at a2
   unfold numB letB
   simp only [decide_eq_false_iff_not]
   refine ⟨by omega, by omega⟩
 rw [tk_op h0 (by rw [nmN_zero fun x m e => (hfirst x m e).2]; omega) (by rw [cN_zero fun x m e => (hfirst x m e).1]; omega) (by rw [hb]; exact hne), hb]
theorem opd_numL {l : List Int} {n : Nat} {t : Tk} (hk : t.kind = 2) (ho : t.over = false) (hg : goesB l t.stop = false) : rd l (n + 1) .opd t = some (.ok (.num t.num t.start) (tok l t.stop)) := by
 simp only [rd]
 rw [if_pos hk, if_neg (by rw [ho]; decide), if_neg (by rw [hg]; decide)]
theorem loop_stop {l : List Int} {n k : Nat} {left : Tr} {t : Tk} (h : ¬ k ≤ strN t.text) : rd l (n + 1) (.loop k left) t = some (.ok left t) := by
 simp only [rd]
 rw [if_neg h]
theorem loop_go {l : List Int} {n k : Nat} {left b : Tr} {t t2 : Tk} (h : k ≤ strN t.text) (hb : rd l n (.bin (strN t.text + 1)) (tok l t.stop) = some (.ok b t2)) : rd l (n + 1) (.loop k left) t = rd l n (.loop k (.bin t.text t.start left b)) t2 := by
 simp only [rd]
 rw [if_pos h, hb]
theorem bin_of {l : List Int} {n k : Nat} {a : Tr} {t t1 : Tk} (h : rd l n .opd t = some (.ok a t1)) : rd l (n + 1) (.bin k) t = rd l n (.loop k a) t1 := by
 simp only [rd]
 rw [h]
theorem cond_of {l : List Int} {n : Nat} {a : Tr} {t t1 : Tk} (h : rd l n (.bin 1) t = some (.ok a t1)) (hq : ¬ t1.text = sQue) : rd l (n + 1) .cond t = some (.ok a t1) := by
 simp only [rd]
 rw [h]
 simp only []
 rw [if_neg hq]
theorem tok_here (y r : List Int) (h : ∀ x m, r = x :: m → whiteB x = false) : tok (y ++ r) y.length = tokL r y.length := by
 have e : skipN (y ++ r) y.length = y.length := by
  unfold skipN
  rw [List.drop_left]
  cases r with
  | nil => simp [pre]
  | cons x m => simp [pre, h x m rfl]
 unfold tok
 rw [e, List.drop_left]
theorem goesB_ends (y r : List Int) (h : Ends r) : goesB (y ++ r) y.length = false := by
 have := goesB_sh y r 0
 rw [Nat.add_zero] at this
 rw [this]
 unfold goesB
 cases r with
 | nil => simp
 | cons x m =>
  obtain ⟨h1, h2⟩ := h x m rfl
  have h3 : nmN ((x :: m).drop 0) = 0 := nmN_zero fun x' m' e => by
   simp only [List.drop_zero, List.cons.injEq] at e
   rw [← e.1]
   exact h2
  rw [h3]
  simp [h1]
theorem op_first (i : Nat) (hi : i < 35) : ∃ x m, bys (opList.getD i sEmpty) = x :: m ∧ numB x = false ∧ letB x = false ∧ whiteB x = false := by
 have h : ∀ i : Fin 35, (match bys (opList.getD i.val sEmpty) with | [] => false | x :: _ => !(numB x) && !(letB x) && !(whiteB x)) = true := by decide
 have hh := h ⟨i, hi⟩
 simp only [] at hh
 generalize bys (opList.getD i sEmpty) = b at *
 match b, hh with
 | x :: m, hh =>
  simp only [Bool.and_eq_true, Bool.not_eq_true'] at hh
  exact ⟨x, m, rfl, hh.1.1, hh.1.2, hh.2⟩
theorem op_solid (i : Nat) (hi : i < 35) (r : List Int) : ∀ x m, bys (opList.getD i sEmpty) ++ r = x :: m → whiteB x = false := by
 obtain ⟨x, m, e, _, _, h3⟩ := op_first i hi
 rw [e]
 intro x' m' e'
 simp only [List.cons_append, List.cons.injEq] at e'
 rw [← e'.1]
 exact h3
theorem dec_solid (n : Nat) (r : List Int) : ∀ x m, dL n ++ r = x :: m → whiteB x = false := by
 obtain ⟨d, ds, e, h1, h2⟩ := dL_cons n
 rw [e]
 intro x' m' e'
 simp only [List.cons_append, List.cons.injEq] at e'
 rw [← e'.1]
 unfold whiteB
 simp
 omega
theorem tok_last (l : List Int) : tok l l.length = ⟨0, l.length, l.length, sEmpty, 0, false⟩ := by
 have e : skipN l l.length = l.length := by unfold skipN; rw [List.drop_length]; rfl
 unfold tok
 rw [e, List.drop_length]
 rfl
end Go.Proofs.YtkakhfkkeoceiaaGreatDoor
