/- KVa: several texts in one (kmerge.py). -/
import Derived.Test.YthpmkpnndbjflaaGreatDoorKNu
import Derived.Test.YthpmkpnndbjflaaGreatDoorAcHf
/- Variables of which one is set. -/
namespace Go.Proofs.YthpmkpnndbjflaaGreatDoor
open Go.RowKit Go.WideMaps Go.Maps

set_option maxRecDepth 100000 in
set_option maxHeartbeats 4000000 in
theorem isNameA_any (s : ByteArray) (w : World) (hl : s.size ≤ 9223372036854775807) : Calls Tryz.prog 43 #[.string s] w fun e w' => e = .returned (.bool (nmB s)) ∧ Below w.heap.size w w' := by
  by_cases hE : s = sEmpty
  · obtain rfl : s = ⟨#[]⟩ := hE
    have HF : nmB ⟨#[]⟩ = false := rfl
    rw [HF]
    go_enter Tryz.func43, Tryz.ntmps43
    go_wp2_with fail
    go_ret
    exact ⟨rfl, Below.refl _ _⟩
  · obtain ⟨cap, W1, hconv, hrow, hbel⟩ := conv_sl w s hl
    have HN : Hid (Calls Tryz.prog 74 #[.slice (some ⟨w.heap.size, 0, none⟩) s.size cap] W1 fun e w' => e = .returned (.int .i64 (nmN (bys s))) ∧ W1 = w') := Lib.hid (nm_any _ (bys s) W1 hrow)
    have tn := tl_no (l := []) hE
    have HE : nmB s = decide (nmN (bys s) = s.size) := by unfold nmB; rw [decide_eq_true hE, Bool.true_and]
    rw [HE]
    have HB := Lib.hid hbel
    clear hrow hbel
    go_enter Tryz.func43, Tryz.ntmps43
    go_wp2_with fail
    refine HN.out.mono ?_
    rintro e w2 ⟨rfl, rfl⟩
    go_wp2_with fail
    go_ret
    exact ⟨ret_bool (by rw [Bool.eq_iff_iff, beq_iff_eq, decide_eq_true_iff]; omega), HB.out⟩
def dV (a b : ByteArray) : DataW Unit := .agg [.lit (.string a.data.toList), .lit (.string b.data.toList)]
theorem dV_inj {a b c d : ByteArray} (h : dV a b = dV c d) : a = c ∧ b = d := by
  simp only [dV, DataW.agg.injEq, List.cons.injEq, DataW.lit.injEq, Lit.string.injEq, and_true] at h
  exact ⟨by obtain ⟨a⟩ := a; obtain ⟨c⟩ := c; simpa using h.1, by obtain ⟨b⟩ := b; obtain ⟨d⟩ := d; simpa using h.2⟩
open Classical in
/-- A variable read as data. -/
noncomputable def rdV (v : Value) : Option (DataW Unit × List MemPlace) :=
  if h : ∃ p : ByteArray × ByteArray, v = .agg #[.string p.1, .string p.2] then some (dV (Classical.choose h).1 (Classical.choose h).2, []) else none
theorem rdV_mk (a b : ByteArray) : rdV (.agg #[.string a, .string b]) = some (dV a b, []) := by
  unfold rdV
  have h : ∃ p : ByteArray × ByteArray, Value.agg #[.string a, .string b] = .agg #[.string p.1, .string p.2] := ⟨(a, b), rfl⟩
  rw [dif_pos h]
  have hs := Classical.choose_spec h
  generalize Classical.choose h = p at hs ⊢
  simp only [Value.agg.injEq, Array.mk.injEq, List.cons.injEq, Value.string.injEq, and_true] at hs
  rw [← hs.1, ← hs.2]
theorem rdV_inv {v : Value} {a b : ByteArray} {ps : List MemPlace} (h : rdV v = some (dV a b, ps)) : v = .agg #[.string a, .string b] := by
  unfold rdV at h
  split at h
  · rename_i hh
    have hs := Classical.choose_spec hh
    simp only [Option.some.injEq, Prod.mk.injEq] at h
    obtain ⟨h1, h2⟩ := dV_inj h.1
    rw [hs, h1, h2]
  · cases h
end Go.Proofs.YthpmkpnndbjflaaGreatDoor
/- The variables of a run where one is set. -/
namespace Go.Proofs.YthpmkpnndbjflaaGreatDoor
open Go.RowKit Go.WideMaps Go.Maps

theorem numR_fit (neg : Bool) (l : List Int) : I64 (numR neg l).1 ∧ (numR neg l).2 ≤ 21 := by
  have h := cV_bd l
  unfold numR
  split
  · exact ⟨by unfold I64; omega, by omega⟩
  · split
    · exact ⟨by unfold I64; omega, by omega⟩
    · cases neg
      · exact ⟨by unfold I64; simp; omega, by omega⟩
      · have hw : wrap64 (-cV l) = -cV l := by unfold wrap64; omega
        exact ⟨by unfold I64; simp only [if_true]; rw [hw]; omega, by omega⟩
theorem numOf_fit (s : ByteArray) : I64 (numOf s).1 ∧ (numOf s).2 ≤ 21 := by
  unfold numOf
  split
  · exact ⟨by unfold I64; omega, by omega⟩
  · unfold numT
    split
    · exact ⟨by unfold I64; omega, by omega⟩
    · exact numR_fit _ _
end Go.Proofs.YthpmkpnndbjflaaGreatDoor
/- Variables as a row of names and values, rising by names: set, unset, looked up. Pure. -/
namespace Go.Proofs.YthpmkpnndbjflaaGreatDoor
open Go.RowKit Go.WideMaps Go.Maps

abbrev Vl := List (ByteArray × ByteArray)
def nmL (s : ByteArray) : List UInt8 := s.data.toList
theorem nmL_inj {s t : ByteArray} (h : nmL s = nmL t) : s = t := by
  obtain ⟨⟨s⟩⟩ := s
  obtain ⟨⟨t⟩⟩ := t
  simpa [nmL] using h
theorem nl_irrefl (x : List UInt8) : ¬ x < x := List.lt_irrefl x
theorem nl_trans {x y z : List UInt8} (h : x < y) (k : y < z) : x < z := List.lt_trans h k
theorem nl_tri (x y : List UInt8) : x < y ∨ x = y ∨ y < x := by
  by_cases h : x < y
  · exact Or.inl h
  · by_cases k : y < x
    · exact Or.inr (Or.inr k)
    · exact Or.inr (Or.inl (List.le_antisymm (List.not_lt.1 k) (List.not_lt.1 h)))
/-- Rising by names. -/
def Vl.Ris (l : Vl) : Prop := l.Pairwise fun a b => nmL a.1 < nmL b.1
def lookV : Vl → ByteArray → Option ByteArray
  | [], _ => none
  | (k, v) :: r, s => if k = s then some v else lookV r s
def unsetV (n : ByteArray) (l : Vl) : Vl := l.filter fun x => decide (¬ x.1 = n)
/-- The reference's loop of Set. -/
def setG (n v : ByteArray) : Bool → Vl → Vl
  | d, [] => if d = true then [] else [(n, v)]
  | d, x :: r => (if d = false ∧ ¬ nmL x.1 < nmL n then [(n, v)] else []) ++ ((if x.1 = n then [] else [x]) ++ setG n v (d || decide (¬ nmL x.1 < nmL n)) r)
def setV (n v : ByteArray) (l : Vl) : Vl := setG n v false l

theorem setG_true (n v : ByteArray) : ∀ l : Vl, setG n v true l = unsetV n l
  | [] => rfl
  | x :: r => by
    simp only [setG, Bool.true_or, setG_true n v r, unsetV, List.filter_cons]
    by_cases h : x.1 = n <;> simp [h]
theorem mem_unsetV {n : ByteArray} {l : Vl} {x : ByteArray × ByteArray} : x ∈ unsetV n l ↔ x ∈ l ∧ ¬ x.1 = n := by simp [unsetV]
theorem unsetV_ris {n : ByteArray} {l : Vl} (h : l.Ris) : (unsetV n l).Ris := List.Pairwise.filter _ h
theorem unsetV_len (n : ByteArray) (l : Vl) : (unsetV n l).length ≤ l.length := List.length_filter_le _ _
theorem mem_setV {n v : ByteArray} : ∀ {l : Vl} {x : ByteArray × ByteArray}, x ∈ setV n v l ↔ x = (n, v) ∨ (x ∈ l ∧ ¬ x.1 = n)
  | [], x => by simp [setV, setG]
  | y :: r, x => by
    have ih : x ∈ setG n v false r ↔ _ := mem_setV (n := n) (v := v) (l := r) (x := x)
    unfold setV
    rw [setG]
    by_cases hc : nmL y.1 < nmL n
    · have hne : ¬ y.1 = n := fun e => nl_irrefl _ (e ▸ hc)
      simp only [hc, not_true_eq_false, and_false, if_false, hne, Bool.false_or, decide_false, List.nil_append, List.mem_append, List.mem_cons, List.not_mem_nil, or_false, ih]
      constructor
      · rintro (rfl | h | h)
        · exact Or.inr ⟨Or.inl rfl, hne⟩
        · exact Or.inl h
        · exact Or.inr ⟨Or.inr h.1, h.2⟩
      · rintro (h | ⟨rfl | h, h2⟩)
        · exact Or.inr (Or.inl h)
        · exact Or.inl rfl
        · exact Or.inr (Or.inr ⟨h, h2⟩)
    · simp only [hc, not_false_eq_true, and_self, if_true, decide_true, Bool.or_true, setG_true, List.mem_append, List.mem_cons, List.not_mem_nil, or_false, mem_unsetV]
      by_cases hy : y.1 = n
      · simp only [hy, if_true, List.not_mem_nil, false_or]
        constructor
        · rintro (h | h)
          · exact Or.inl h
          · exact Or.inr ⟨Or.inr h.1, h.2⟩
        · rintro (h | ⟨rfl | h, h2⟩)
          · exact Or.inl h
          · exact absurd hy h2
          · exact Or.inr ⟨h, h2⟩
      · simp only [hy, if_false, List.mem_cons, List.not_mem_nil, or_false]
        constructor
        · rintro (h | rfl | h)
          · exact Or.inl h
          · exact Or.inr ⟨Or.inl rfl, hy⟩
          · exact Or.inr ⟨Or.inr h.1, h.2⟩
        · rintro (h | ⟨rfl | h, h2⟩)
          · exact Or.inl h
          · exact Or.inr (Or.inl rfl)
          · exact Or.inr (Or.inr ⟨h, h2⟩)
theorem setV_len (n v : ByteArray) : ∀ (l : Vl) (d : Bool), (setG n v d l).length ≤ l.length + 1
  | [], d => by simp only [setG]; split <;> simp
  | y :: r, d => by
    rw [setG]
    by_cases hd : d = false ∧ ¬ nmL y.1 < nmL n
    · have e : (d || decide (¬ nmL y.1 < nmL n)) = true := by simp [hd.2]
      rw [e, setG_true]
      have := unsetV_len n r
      simp only [hd, and_self, if_true, List.length_append, List.length_cons, List.length_nil, not_false_eq_true]
      split <;> simp <;> omega
    · have := setV_len n v r (d || decide (¬ nmL y.1 < nmL n))
      generalize (d || decide (¬ nmL y.1 < nmL n)) = q at *
      simp only [hd, if_false, List.length_append, List.length_nil]
      split <;> simp only [List.length_cons, List.length_nil] <;> omega
theorem setV_ris {n v : ByteArray} : ∀ {l : Vl}, l.Ris → (setV n v l).Ris
  | [], _ => by simp [setV, setG, Vl.Ris]
  | y :: r, h => by
    obtain ⟨h1, h2⟩ := List.pairwise_cons.1 h
    have ih : (setG n v false r).Ris := setV_ris (n := n) (v := v) h2
    unfold setV
    rw [setG]
    by_cases hc : nmL y.1 < nmL n
    · have hne : ¬ y.1 = n := fun e => nl_irrefl _ (e ▸ hc)
      simp only [hc, not_true_eq_false, and_false, if_false, hne, Bool.false_or, decide_false, List.nil_append, List.cons_append]
      refine List.pairwise_cons.2 ⟨fun z hz => ?_, ih⟩
      rcases (mem_setV (n := n) (v := v)).1 hz with rfl | ⟨hz, _⟩
      · exact hc
      · exact h1 z hz
    · have hr : (unsetV n r).Ris := unsetV_ris h2
      have hny : nmL n < nmL y.1 ∨ n = y.1 := by
        rcases nl_tri (nmL y.1) (nmL n) with k | k | k
        · exact absurd k hc
        · exact Or.inr (nmL_inj k).symm
        · exact Or.inl k
      simp only [hc, not_false_eq_true, and_self, if_true, decide_true, Bool.or_true, setG_true, List.cons_append, List.nil_append]
      refine List.pairwise_cons.2 ⟨fun z hz => ?_, ?_⟩
      · rcases List.mem_append.1 hz with hz | hz
        · by_cases hy : y.1 = n
          · simp [hy] at hz
          · simp only [hy, if_false, List.mem_cons, List.not_mem_nil, or_false] at hz
            subst hz
            rcases hny with k | k
            · exact k
            · exact absurd k.symm hy
        · have hz' := (mem_unsetV.1 hz).1
          rcases hny with k | k
          · exact nl_trans k (h1 z hz')
          · subst k; exact h1 z hz'
      · by_cases hy : y.1 = n
        · simp only [hy, if_true, List.nil_append]; exact hr
        · simp only [hy, if_false, List.cons_append, List.nil_append]
          exact List.pairwise_cons.2 ⟨fun z hz => h1 z (mem_unsetV.1 hz).1, hr⟩
theorem look_mem {l : Vl} (h : l.Ris) {s v : ByteArray} : lookV l s = some v ↔ (s, v) ∈ l := by
  induction l with
  | nil => simp [lookV]
  | cons y r ih =>
    obtain ⟨k, u⟩ := y
    obtain ⟨h1, h2⟩ := List.pairwise_cons.1 h
    simp only [lookV]
    by_cases e : k = s
    · subst e
      simp only [if_true, Option.some.injEq, List.mem_cons, Prod.mk.injEq, true_and]
      constructor
      · intro e; exact Or.inl e.symm
      · rintro (e | e)
        · exact e.symm
        · exact absurd (h1 _ e) (nl_irrefl _)
    · rw [if_neg e, ih h2, List.mem_cons]
      constructor
      · exact Or.inr
      · rintro (e' | e')
        · exact absurd (congrArg Prod.fst e').symm e
        · exact e'
theorem look_set {l : Vl} (h : l.Ris) (n v s : ByteArray) : lookV (setV n v l) s = if n = s then some v else lookV l s := by
  have hr := setV_ris (n := n) (v := v) h
  by_cases e : n = s
  · subst e
    rw [if_pos rfl, look_mem hr, mem_setV]
    exact Or.inl rfl
  · rw [if_neg e]
    refine Option.ext fun u => ?_
    rw [look_mem hr, mem_setV, look_mem h]
    constructor
    · rintro (k | k)
      · exact absurd (congrArg Prod.fst k).symm e
      · exact k.1
    · intro k; exact Or.inr ⟨k, fun e' => e e'.symm⟩
/-- The map reads as the row. -/
def VRep (D : DataW Unit) (l : Vl) : Prop := ∀ s : ByteArray, Maps.has D (KL s) = (lookV l s).isSome ∧ ∀ v, lookV l s = some v → ∀ z, D.atKey (KL s) z = dV s v
theorem VRep.nil : VRep (.map []) [] := fun _ => ⟨rfl, fun _ h => by cases h⟩
theorem VRep.put {D : DataW Unit} {l : Vl} (h : VRep D l) (hD : IsMap D) (hr : l.Ris) (n v : ByteArray) : VRep (D.put (KL n) (dV n v)) (setV n v l) := by
  intro s
  have hk : WideAt.IsKeyLit (KL n) := trivial
  rw [look_set hr]
  by_cases e : n = s
  · subst e
    rw [if_pos rfl, has_put_same hD hk]
    exact ⟨rfl, fun u hu z => by rw [atKey_put_same hD hk]; cases hu; rfl⟩
  · have hne : KL s ≠ KL n := fun h => e (KL.inj h).symm
    rw [if_neg e, has_put_other hne]
    exact ⟨(h s).1, fun u hu z => by rw [atKey_put_other hne]; exact (h s).2 u hu z⟩
end Go.Proofs.YthpmkpnndbjflaaGreatDoor
/- Variables in memory: Get, Set, Unset of any. -/
namespace Go.Proofs.YthpmkpnndbjflaaGreatDoor
open Go.RowKit Go.WideMaps Go.Maps

/-- All blocks but those of P are as they were. -/
structure But (P : Nat → Prop) (w w' : World) : Prop where
  os : w'.os = w.os
  tape : w'.tape = w.tape
  output : w'.output = w.output
  size : w.heap.size ≤ w'.heap.size
  block : ∀ k, k < w.heap.size → ¬ P k → w'.heap[k]? = w.heap[k]?
theorem But.of_below {P : Nat → Prop} {w w' : World} (h : Below w.heap.size w w') : But P w w' := ⟨h.os, h.tape, h.output, h.size, fun i hi _ => h.block i hi⟩
theorem But.below {P : Nat → Prop} {B : Nat} {w w' : World} (h : But P w w') (hB : B ≤ w.heap.size) (hP : ∀ i, i < B → ¬ P i) : Below B w w' := ⟨h.os, h.tape, h.output, h.size, fun i hi => h.block i (by omega) (hP i hi)⟩
theorem But.setCell {P : Nat → Prop} {a w : World} (h : But P a w) {p : Addr} (hp : P p.block) (u : Value) : But P a (w.setCell p u) :=
  ⟨h.os, h.tape, h.output, by simp only [World.setCell, Array.size_modify]; exact h.size, fun k hk hn => (Below.heap_setCell _ _ _ _ (fun e => hn (by rw [e]; exact hp))).trans (h.block k hk hn)⟩
theorem But.alloc {P : Nat → Prop} {a w : World} (h : But P a w) (o : Obj) : But P a (w.alloc o) :=
  ⟨h.os, h.tape, h.output, by simp only [World.size_alloc]; have := h.size; omega, fun k hk hn => (Below.heap_alloc _ _ _ (by have := h.size; omega)).trans (h.block k hk hn)⟩
theorem But.grown {P : Nat → Prop} {a w w' : World} {row : Option Nat} (h : But P a w) (hg : w.grownBy w' row) (hr : ∀ k, row = some k → k < a.heap.size → P k) : But P a w' :=
  ⟨hg.os.trans h.os, hg.tape.trans h.tape, hg.output.trans h.output, Nat.le_trans h.size hg.size, fun k hk hn => (hg.block k (by have := h.size; omega) (fun e => hn (hr k e.symm hk))).trans (h.block k hk hn)⟩

/-- The variables in the block vb, their map in mo, are the row l. -/
structure VarsAt (w : World) (vb : Nat) (mo : Option Nat) (N : Nat) (l : Vl) : Prop where
  blk : w.heap[vb]? = some (.cells #[.map mo] 81 (0, 0))
  ris : l.Ris
  none : mo = none → l = []
  own : ∀ mb, mo = some mb → ∃ D, w.ownsMap Tryz.prog 9 rdV mb N D ∧ VRep D l
/-- The blocks of variables. -/
def VB (vb : Nat) (mo : Option Nat) (i : Nat) : Prop := i = vb ∨ some i = mo
theorem VarsAt.ne {w : World} {vb : Nat} {mo : Option Nat} {N : Nat} {l : Vl} (h : VarsAt w vb mo N l) {mb : Nat} (hm : mo = some mb) : mb ≠ vb := by
  rintro rfl
  obtain ⟨D, ⟨es, clock, h1, _⟩, _⟩ := h.own _ hm
  have := h.blk
  rw [h1] at this
  cases this
theorem VarsAt.lt {w : World} {vb : Nat} {mo : Option Nat} {N : Nat} {l : Vl} (h : VarsAt w vb mo N l) : vb < w.heap.size := lt_blkA h.blk
theorem VarsAt.ltm {w : World} {vb : Nat} {mo : Option Nat} {N : Nat} {l : Vl} (h : VarsAt w vb mo N l) {mb : Nat} (hm : mo = some mb) : mb < w.heap.size := by
  obtain ⟨D, h1, _⟩ := h.own _ hm
  exact h1.lt
theorem own_same {w w' : World} {k : TypeId} {R : Value → Option (DataW Unit × List MemPlace)} {b n : Nat} {D : DataW Unit} (h : w.ownsMap Tryz.prog k R b n D) (hb : w'.heap[b]? = w.heap[b]?) : w'.ownsMap Tryz.prog k R b n D := by
  obtain ⟨es, clock, h1, h2⟩ := h
  exact ⟨es, clock, hb.trans h1, h2⟩
theorem VarsAt.same {w w' : World} {vb : Nat} {mo : Option Nat} {N : Nat} {l : Vl} (h : VarsAt w vb mo N l) (h1 : w'.heap[vb]? = w.heap[vb]?) (h2 : ∀ mb, mo = some mb → w'.heap[mb]? = w.heap[mb]?) : VarsAt w' vb mo N l :=
  ⟨h1.trans h.blk, h.ris, h.none, fun mb e => by
    obtain ⟨D, g1, g2⟩ := h.own mb e
    exact ⟨D, own_same g1 (h2 mb e), g2⟩⟩
theorem VarsAt.below {w w' : World} {vb : Nat} {mo : Option Nat} {N : Nat} {l : Vl} (h : VarsAt w vb mo N l) (hb : Below w.heap.size w w') : VarsAt w' vb mo N l :=
  h.same (hb.block vb h.lt) (fun mb e => hb.block mb (h.ltm e))
theorem VarsAt.more {w : World} {vb : Nat} {mo : Option Nat} {N N' : Nat} {l : Vl} (h : VarsAt w vb mo N l) (hN : N ≤ N') : VarsAt w vb mo N' l :=
  ⟨h.blk, h.ris, h.none, fun mb e => by
    obtain ⟨D, g1, g2⟩ := h.own mb e
    exact ⟨D, g1.mono hN, g2⟩⟩
/-- The value of a name, empty where it is unset. -/
def valV (l : Vl) (n : ByteArray) : ByteArray := (lookV l n).getD ⟨#[]⟩

set_option maxRecDepth 100000 in
set_option maxHeartbeats 4000000 in
theorem get_hit (vb mb N : Nat) (l : Vl) (n v : ByteArray) (w : World) (hv : VarsAt w vb (some mb) N l) (hn : n.size ≤ maxLen) (hl : lookV l n = some v) : Calls Tryz.prog 16 #[.pointer (some ⟨vb, 0, none⟩), .string n] w fun e w' => e = .returned (.tuple #[.string v, .bool true]) ∧ Below w.heap.size w w' := by
  obtain ⟨D, hown, hrep⟩ := hv.own mb rfl
  obtain ⟨c0, _, hz⟩ := cells1A hv.blk
  obtain ⟨v', ps, hlk, hr⟩ := hown.look_ok lawS Tryz.underlying79 (zeroVar w) (rdV_mk _ _) (KL.key hn)
  obtain ⟨h1, h2⟩ := hrep n
  rw [h2 v hl] at hr
  rw [h1, hl] at hlk
  have ht : (some v).isSome = true := rfl
  rw [ht] at hlk
  obtain rfl := rdV_inv hr
  clear hv hown hrep hr h1 h2 hl ht
  go_enter Tryz.func16, Tryz.ntmps16
  go_wp2_with fail
  go_ret2
  exact ⟨rfl, (Below.refl _ _).alloc (Nat.le_refl _) _⟩
set_option maxRecDepth 100000 in
set_option maxHeartbeats 4000000 in
theorem get_miss (vb mb N : Nat) (l : Vl) (n : ByteArray) (w : World) (hv : VarsAt w vb (some mb) N l) (hn : n.size ≤ maxLen) (hl : lookV l n = none) : Calls Tryz.prog 16 #[.pointer (some ⟨vb, 0, none⟩), .string n] w fun e w' => e = .returned (.tuple #[.string ⟨#[]⟩, .bool false]) ∧ Below w.heap.size w w' := by
  obtain ⟨D, hown, hrep⟩ := hv.own mb rfl
  obtain ⟨c0, _, hz⟩ := cells1A hv.blk
  obtain ⟨v', ps, hlk, hr⟩ := hown.look_ok lawS Tryz.underlying79 (zeroVar w) (rdV_mk _ _) (KL.key hn)
  obtain ⟨h1, h2⟩ := hrep n
  have hh : Maps.has D (KL n) = false := by rw [h1, hl]; rfl
  rw [atKey_of_not_has hh] at hr
  rw [hh] at hlk
  obtain rfl := rdV_inv (a := ⟨#[]⟩) (b := ⟨#[]⟩) (ps := ps) hr
  clear hv hown hrep hr h1 h2 hl hh
  go_enter Tryz.func16, Tryz.ntmps16
  go_wp2_with fail
  go_ret2
  exact ⟨rfl, (Below.refl _ _).alloc (Nat.le_refl _) _⟩
theorem get_any (vb N : Nat) (mo : Option Nat) (l : Vl) (n : ByteArray) (w : World) (hv : VarsAt w vb mo N l) (hn : n.size ≤ maxLen) : Calls Tryz.prog 16 #[.pointer (some ⟨vb, 0, none⟩), .string n] w fun e w' => e = .returned (.tuple #[.string (valV l n), .bool (lookV l n).isSome]) ∧ Below w.heap.size w w' := by
  cases mo with
  | none =>
    obtain rfl := hv.none rfl
    exact get_new vb n w hv.blk hn
  | some mb =>
    cases hl : lookV l n with
    | none =>
      have e : valV l n = ⟨#[]⟩ := by unfold valV; rw [hl]; rfl
      rw [e]
      exact get_miss vb mb N l n w hv hn hl
    | some v =>
      have e : valV l n = v := by unfold valV; rw [hl]; rfl
      rw [e]
      exact get_hit vb mb N l n v w hv hn hl

set_option maxRecDepth 100000 in
set_option maxHeartbeats 4000000 in
theorem set_no (vb : Nat) (nm val : ByteArray) (w : World) (hn : nm.size ≤ maxLen) (hnm : nmB nm = false) : Calls Tryz.prog 13 #[.pointer (some ⟨vb, 0, none⟩), .string nm, .string val] w fun e w' => e = .returned (.bool false) ∧ Below w.heap.size w w' := by
  have HIN := Lib.hid (isNameA_any nm w (by unfold maxLen at hn; omega))
  rw [hnm] at HIN
  clear hnm hn
  go_enter Tryz.func13, Tryz.ntmps13
  go_wp2_with fail
  refine HIN.out.mono ?_
  rintro e w1 ⟨rfl, hb1⟩
  have HB := Lib.hid hb1
  clear hb1
  go_wp2_with fail
  go_ret
  exact ⟨rfl, HB.out⟩
set_option maxRecDepth 100000 in
set_option maxHeartbeats 4000000 in
theorem set_new (vb N : Nat) (nm val : ByteArray) (w : World) (hv : VarsAt w vb none N []) (hn : nm.size ≤ maxLen) (hnm : nmB nm = true) : Calls Tryz.prog 13 #[.pointer (some ⟨vb, 0, none⟩), .string nm, .string val] w fun e w' => e = .returned (.bool true) ∧ (∃ mb, w.heap.size ≤ mb ∧ VarsAt w' vb (some mb) (N + 1) (setV nm val [])) ∧ But (VB vb none) w w' := by
  have HIN := Lib.hid (isNameA_any nm w (by unfold maxLen at hn; omega))
  rw [hnm] at HIN
  have HV := Lib.hid hv
  have HN := Lib.hid hn
  clear hv hnm hn
  go_enter Tryz.func13, Tryz.ntmps13
  go_wp2_with fail
  refine HIN.out.mono ?_
  rintro e w1 ⟨rfl, hb1⟩
  have hv1 := blk_belowA HV.out.blk hb1
  obtain ⟨c0, _, hz⟩ := cells1A hv1
  have hmm := @run_makeMap Tryz.prog
  have heq : ∀ X : World, (Go.binOp BinOp.eql 79 (.map none) (.map none)).run Tryz.prog X = .ok (.bool true) X := fun _ => by kernel_rfl
  have hown : ((w1.setCell ⟨vb, 0, none⟩ (.map (some w1.heap.size))).alloc (.map #[] 0)).ownsMap Tryz.prog 9 rdV w1.heap.size 0 (DataW.map []) := by
    have h := World.ownsMap_made (H := Unit) (w1.setCell ⟨vb, 0, none⟩ (.map (some w1.heap.size))) Tryz.prog 9 rdV
    simpa using h
  have HB1 := Lib.hid hb1
  have HO := Lib.hid hown
  have HHV := Lib.hid hv1
  clear hown hb1 hv1
  go_wp2_with (at_mapUpdate; go_must (refine wpList_mapUpdate_own _ rfl _ _ _ 79 rfl 9 74 lawS Tryz.underlying79 rdV w1.heap.size 0 (DataW.map []) rfl HO.out (by decide) _ _ (KL nm) rfl rfl (KL.key HN.out) (dV nm val) [] (rdV_mk nm val) ?_); intro w2 hown2 hgr2; have HO2 := Lib.hid hown2; have HG2 := Lib.hid hgr2; clear hown2 hgr2)
  go_ret
  have hsz := HB1.out.size
  have hb1 : But (VB vb none) w w1 := But.of_below HB1.out
  have hb2 : But (VB vb none) w ((w1.setCell ⟨vb, 0, none⟩ (.map (some w1.heap.size))).alloc (.map #[] 0)) := (hb1.setCell (p := ⟨vb, 0, none⟩) (Or.inl rfl) _).alloc _
  have hb3 : But (VB vb none) w w2 := hb2.grown HG2.out (fun k e hk => by have := Option.some.inj e; omega)
  have hlt0 := lt_blkA HHV.out
  refine ⟨rfl, ⟨w1.heap.size, hsz, ?_, setV_ris List.Pairwise.nil, (fun e => by cases e), fun mb e => ?_⟩, hb3⟩
  · exact (HG2.out.block vb (by simp; omega) (fun e => by have := Option.some.inj e; omega)).trans ((Below.heap_alloc _ _ vb (by simp; omega)).trans (blk_setA HHV.out))
  · obtain rfl := Option.some.inj e
    have h2 := HO2.out
    exact ⟨_, World.ownsMap.mono (by simpa using h2) (by omega), VRep.nil.put isMap_empty List.Pairwise.nil nm val⟩
set_option maxRecDepth 100000 in
set_option maxHeartbeats 4000000 in
theorem set_more (vb mb N : Nat) (l : Vl) (nm val : ByteArray) (w : World) (hv : VarsAt w vb (some mb) N l) (hN : N < maxLen) (hn : nm.size ≤ maxLen) (hnm : nmB nm = true) : Calls Tryz.prog 13 #[.pointer (some ⟨vb, 0, none⟩), .string nm, .string val] w fun e w' => e = .returned (.bool true) ∧ VarsAt w' vb (some mb) (N + 1) (setV nm val l) ∧ But (VB vb (some mb)) w w' := by
  have HIN := Lib.hid (isNameA_any nm w (by unfold maxLen at hn; omega))
  rw [hnm] at HIN
  have HV := Lib.hid hv
  have HN := Lib.hid hn
  have HNN := Lib.hid hN
  clear hv hnm hn hN
  go_enter Tryz.func13, Tryz.ntmps13
  go_wp2_with fail
  refine HIN.out.mono ?_
  rintro e w1 ⟨rfl, hb1⟩
  have HV1 := Lib.hid (HV.out.below hb1)
  obtain ⟨c0, _, hz⟩ := cells1A HV1.out.blk
  obtain ⟨D, hown, hrep⟩ := HV1.out.own mb rfl
  have heq : ∀ X : World, (Go.binOp BinOp.eql 79 (.map (some mb)) (.map none)).run Tryz.prog X = .ok (.bool false) X := fun _ => by kernel_rfl
  have HB1 := Lib.hid hb1
  have HO := Lib.hid hown
  have HR := Lib.hid hrep
  have HIS := Lib.hid hown.isMap
  clear hown hb1 hrep
  go_wp2_with (at_mapUpdate; go_must (refine wpList_mapUpdate_own _ rfl _ _ _ 79 rfl 9 74 lawS Tryz.underlying79 rdV mb N D rfl HO.out HNN.out _ _ (KL nm) rfl rfl (KL.key HN.out) (dV nm val) [] (rdV_mk nm val) ?_); intro w2 hown2 hgr2; have HO2 := Lib.hid hown2; have HG2 := Lib.hid hgr2; clear hown2 hgr2)
  go_ret
  have hlt0 := HV1.out.lt
  have hne := HV1.out.ne rfl
  refine ⟨rfl, ⟨?_, setV_ris HV1.out.ris, (fun e => by cases e), fun mb' e => ?_⟩, (But.of_below HB1.out).grown HG2.out (fun k e _ => Or.inr e.symm)⟩
  · exact (HG2.out.block vb hlt0 (fun e => hne (Option.some.inj e).symm)).trans HV1.out.blk
  · obtain rfl := Option.some.inj e
    exact ⟨_, HO2.out, HR.out.put HIS.out HV1.out.ris nm val⟩
/-- SET of any name. -/
theorem set_any (vb N : Nat) (mo : Option Nat) (l : Vl) (nm val : ByteArray) (w : World) (hv : VarsAt w vb mo N l) (hN : N < maxLen) (hn : nm.size ≤ maxLen) : Calls Tryz.prog 13 #[.pointer (some ⟨vb, 0, none⟩), .string nm, .string val] w fun e w' => e = .returned (.bool (nmB nm)) ∧ (∃ mo', (mo' = mo ∨ (mo = none ∧ ∃ b, mo' = some b ∧ w.heap.size ≤ b)) ∧ VarsAt w' vb mo' (N + 1) (if nmB nm = true then setV nm val l else l)) ∧ But (VB vb mo) w w' := by
  cases hnm : nmB nm with
  | false =>
    refine (set_no vb nm val w hn hnm).mono ?_
    rintro e w' ⟨rfl, hb⟩
    exact ⟨rfl, ⟨mo, Or.inl rfl, (hv.below hb).more (by omega)⟩, But.of_below hb⟩
  | true =>
    cases mo with
    | none =>
      obtain rfl := hv.none rfl
      refine (set_new vb N nm val w hv hn hnm).mono ?_
      rintro e w' ⟨rfl, ⟨mb, h1, h2⟩, hb⟩
      exact ⟨rfl, ⟨some mb, Or.inr ⟨rfl, mb, rfl, h1⟩, h2⟩, hb⟩
    | some mb =>
      refine (set_more vb mb N l nm val w hv hN hn hnm).mono ?_
      rintro e w' ⟨rfl, h1, hb⟩
      exact ⟨rfl, ⟨some mb, Or.inl rfl, h1⟩, hb⟩

/-- The variables of a run, whatever is set. -/
theorem env_any (vb N : Nat) (mo : Option Nat) (l : Vl) (w : World) (hv : VarsAt w vb mo N l) (hz : ∀ x ∈ l, x.2.size ≤ 9223372036854775807) (hT : TP w) : EnvC w.heap.size (some ⟨vb, 0, none⟩) w (valV l) (fun n => numOf (valV l n)) where
  get n X hn hX := by
    refine (get_any vb N mo l n X (hv.below hX) hn).mono ?_
    rintro e w' ⟨rfl, hb⟩
    exact ⟨⟨_, rfl⟩, hb⟩
  num n X hX := numberOf_any (valV l n) X (by
    unfold valV
    cases hl : lookV l n with
    | none => decide
    | some v => exact hz _ ((look_mem hv.ris).1 hl)) (hT.below hX)
  fit n := numOf_fit _
end Go.Proofs.YthpmkpnndbjflaaGreatDoor
/- A row of variables in memory. -/
namespace Go.Proofs.YthpmkpnndbjflaaGreatDoor
open Go.RowKit

def cVr (p : ByteArray × ByteArray) : List Value := [.string p.1, .string p.2]
theorem cVr_one (p : ByteArray × ByteArray) : ∀ u ∈ cVr p, u.oneCell' = true := fun u hu => by
  rcases List.mem_cons.1 hu with rfl | hu
  · rfl
  · rw [List.mem_singleton.1 hu]; rfl
def rowV : Vl → List Value
  | [] => []
  | t :: r => cVr t ++ rowV r
theorem rowV_app : ∀ (A C : Vl), rowV (A ++ C) = rowV A ++ rowV C
  | [], _ => rfl
  | t :: r, C => by show cVr t ++ rowV (r ++ C) = _; rw [rowV_app r C, ← List.append_assoc]; rfl
theorem rowV_at : ∀ (A : Vl) (k : Nat) (t : ByteArray × ByteArray), A[k]? = some t → (rowV A)[k * 2]? = some (.string t.1) ∧ (rowV A)[k * 2 + 1]? = some (.string t.2)
  | [], _, _, h => by simp at h
  | u :: r, 0, t, h => by
    have e : u = t := Option.some.inj h
    subst e
    exact ⟨rfl, rfl⟩
  | u :: r, k + 1, t, h => by
    obtain ⟨h1, h2⟩ := rowV_at r k t (by simpa using h)
    rw [show (k + 1) * 2 = k * 2 + 2 by omega]
    show (cVr u ++ rowV r)[k * 2 + 2]? = _ ∧ (cVr u ++ rowV r)[k * 2 + 2 + 1]? = _
    rw [List.getElem?_append_right (by show 2 ≤ _; omega), List.getElem?_append_right (by show 2 ≤ _; omega)]
    show (rowV r)[k * 2 + 2 - 2]? = _ ∧ (rowV r)[k * 2 + 2 + 1 - 2]? = _
    rw [show k * 2 + 2 - 2 = k * 2 by omega, show k * 2 + 2 + 1 - 2 = k * 2 + 1 by omega]
    exact ⟨h1, h2⟩
theorem var_parts : ∃ i z, Tryz.prog.info? 74 = some i ∧ i.zero = some z ∧ i.size = 2 ∧ i.bytes = 32 ∧ z.cells.size = 2 := by
  have h : (Tryz.prog.info? 74).map (fun i => (i.zero.map (·.cells.size), i.size, i.bytes)) = some (some 2, 2, 32) := by kernel_rfl
  obtain ⟨i, hi, hzz⟩ := Option.map_eq_some_iff.1 h
  simp only [Prod.mk.injEq] at hzz
  obtain ⟨z, hz, hs⟩ := Option.map_eq_some_iff.1 hzz.1
  exact ⟨i, z, hi, hz, hzz.2.1, hzz.2.2, hs⟩
/-- A slice of variables that nobody writes to. -/
def VS (w : World) (v : Value) (l : Vl) : Prop :=
  (l = [] ∧ ∃ a cap, v = .slice a 0 cap) ∨ ∃ b o cap, v = .slice (some ⟨b, o, none⟩) l.length cap ∧ b < w.heap.size ∧ ∀ (j : Nat) (p : ByteArray × ByteArray), l[j]? = some p → w.cell? ⟨b, o + j * 2, none⟩ = some (.string p.1) ∧ w.cell? ⟨b, o + j * 2 + 1, none⟩ = some (.string p.2)
theorem VS.but {w w' : World} {v : Value} {l : Vl} (h : VS w v l) (hk : ∀ b, b < w.heap.size → (∀ o cap, v = .slice (some ⟨b, o, none⟩) l.length cap → w'.heap[b]? = w.heap[b]?)) (hs : w.heap.size ≤ w'.heap.size) : VS w' v l := by
  rcases h with h | ⟨b, o, cap, hv, hb, hc⟩
  · exact Or.inl h
  · have e := hk b hb o cap hv
    refine Or.inr ⟨b, o, cap, hv, by omega, fun j p hj => ?_⟩
    obtain ⟨h1, h2⟩ := hc j p hj
    exact ⟨(World.cell?_of_block (w := w) e).trans h1, (World.cell?_of_block (w := w) e).trans h2⟩
theorem VS.below {w w' : World} {v : Value} {l : Vl} (h : VS w v l) (hb : Below w.heap.size w w') : VS w' v l := h.but (fun b hlt _ _ _ => hb.block b hlt) hb.size
theorem VS.of_own {w : World} {B : Nat} {v : Value} {l : Vl} (h : w.ownsRow B 74 2 v l.length (rowV l)) : VS w v l := by
  rcases h.2 with ⟨rfl, h0⟩ | ⟨g, cap, cur, rfl, _, hg, _, _, _, ht⟩
  · exact Or.inl ⟨List.length_eq_zero_iff.1 h0, _, _, rfl⟩
  · refine Or.inr ⟨g, 0, cap, rfl, lt_blkA hg, fun j p hj => ?_⟩
    have hjl := (List.getElem?_eq_some_iff.1 hj).1
    obtain ⟨h1, h2⟩ := rowV_at l j p hj
    rw [← ht, List.getElem?_take, if_pos (by omega)] at h1 h2
    rw [Nat.zero_add, Lib.cell_of_heap hg, Lib.cell_of_heap hg]
    rw [← Array.getElem?_toList, ← Array.getElem?_toList]
    exact ⟨h1, h2⟩
end Go.Proofs.YthpmkpnndbjflaaGreatDoor
