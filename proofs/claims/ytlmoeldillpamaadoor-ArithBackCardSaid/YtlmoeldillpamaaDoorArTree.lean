/- The contracts of clone at any tree, of Tree. -/
import Derived.Test.YtlmoeldillpamaaDoorArClone
namespace Go.Proofs.YtlmoeldillpamaaDoor
open Go.RowKit

/-- The i-th kid's cells in a row. -/
theorem rowK_at (ks : Nat → Tr) (vs : Nat → Value) : ∀ (n i j : Nat), i < n → j < 6 → (rowK ks vs n)[i * 6 + j]? = ((ks i).cells (vs i))[j]?
  | 0, i, j, hi, _ => absurd hi (by omega)
  | n + 1, i, j, hi, hj => by
    have hlen : ∀ m, (rowK ks vs m).length = m * 6 := by
      intro m
      induction m with
      | zero => rfl
      | succ m ih => rw [rowK_succ, List.length_append, ih, Tr.cells_len]; omega
    rw [rowK_succ]
    by_cases h : i < n
    · rw [List.getElem?_append_left (by rw [hlen]; omega)]
      exact rowK_at ks vs n i j h hj
    · obtain rfl : i = n := by omega
      rw [List.getElem?_append_right (by rw [hlen]; omega), hlen, Nat.add_sub_cancel_left]
/-- A row's kids, read one by one. -/
theorem RowOf.kids {w : World} {S : Nat → Prop} {kv : Value} {n : Nat} {ks : Nat → Tr} {vs : Nat → Value} (h : RowOf w S kv n (rowK ks vs n)) : ∃ blk cap, kv = .slice (some ⟨blk, 0, none⟩) n cap ∧ n ≤ cap ∧ S blk ∧ ∀ i, i < n →
    (w.cell? ⟨blk, i * 6, none⟩ = some (.string (ks i).op) ∧ w.cell? ⟨blk, i * 6 + 1, none⟩ = some (.int .i64 (ks i).val) ∧ w.cell? ⟨blk, i * 6 + 2, none⟩ = some (.string (ks i).nm) ∧ w.cell? ⟨blk, i * 6 + 3, none⟩ = some (.int .i64 (ks i).pos) ∧ w.cell? ⟨blk, i * 6 + 4, none⟩ = some (.int .i64 (ks i).apos) ∧ w.cell? ⟨blk, i * 6 + 5, none⟩ = some (vs i)) := by
  obtain ⟨g, cap, cur, e, hS, h1, h2, hg, ht⟩ := h
  subst e
  have hh : RowOf w S (.slice (some ⟨g, 0, none⟩) n cap) n (rowK ks vs n) := ⟨g, cap, cur, rfl, hS, h1, h2, hg, ht⟩
  refine ⟨g, cap, rfl, h1, hS, fun i hi => ?_⟩
  have at_ : ∀ j, j < 6 → ∀ u, ((ks i).cells (vs i))[j]? = some u → w.cell? ⟨g, i * 6 + j, none⟩ = some u := fun j hj u hu => hh.cell (by rw [rowK_at ks vs n i j hi hj]; exact hu)
  exact ⟨at_ 0 (by omega) _ rfl, at_ 1 (by omega) _ rfl, at_ 2 (by omega) _ rfl, at_ 3 (by omega) _ rfl, at_ 4 (by omega) _ rfl, at_ 5 (by omega) _ rfl⟩

def k1 (a : Tr) : Nat → Tr := fun _ => a
def k2 (a b : Tr) : Nat → Tr := fun i => if i = 0 then a else b
def k3 (a b c : Tr) : Nat → Tr := fun i => if i = 0 then a else if i = 1 then b else c
def v1 (a : Value) : Nat → Value := fun _ => a
def v2 (a b : Value) : Nat → Value := fun i => if i = 0 then a else b
def v3 (a b c : Value) : Nat → Value := fun i => if i = 0 then a else if i = 1 then b else c
theorem rowK_1 (a : Tr) (x : Nat → Value) : rowK (k1 a) x 1 = a.cells (x 0) := by simp [rowK, k1, List.range_succ]
theorem rowK_2 (a b : Tr) (x : Nat → Value) : rowK (k2 a b) x 2 = a.cells (x 0) ++ b.cells (x 1) := by simp [rowK, k2, List.range_succ]
theorem rowK_3 (a b c : Tr) (x : Nat → Value) : rowK (k3 a b c) x 3 = a.cells (x 0) ++ b.cells (x 1) ++ c.cells (x 2) := by simp [rowK, k3, List.range_succ]

theorem clone_any (W0 : World) (S : Nat → Prop) : ∀ (t : Tr) (kv0 : Value), t.Lay W0 S kv0 → Clones W0 t kv0
  | .num n p, kv0, h => by
    obtain rfl : kv0 = _ := h
    intro w _
    refine (clone_leaf sNum sEmpty n p 0 w).mono ?_
    rintro e w' ⟨rfl, hb⟩
    exact ⟨⟨_, rfl, rfl⟩, hb⟩
  | .name s p, kv0, h => by
    obtain rfl : kv0 = _ := h
    intro w _
    refine (clone_leaf sName s 0 p 0 w).mono ?_
    rintro e w' ⟨rfl, hb⟩
    exact ⟨⟨_, rfl, rfl⟩, hb⟩
  | .un op p a, kv0, h => by
    obtain ⟨ka, hr, ha⟩ := h
    have hr' : RowOf W0 S kv0 1 (rowK (k1 a) (v1 ka) 1) := by rw [rowK_1]; exact hr
    obtain ⟨blk, cap, rfl, _, _, hc⟩ := hr'.kids
    intro w hb
    refine (clone_op W0 blk 1 cap op sEmpty 0 p 0 (k1 a) (v1 ka) (by omega) (by omega) (fun i hi => ⟨hc i hi, ha.shape, clone_any W0 S a ka ha⟩) w hb).mono ?_
    rintro e w' ⟨⟨kv, vs, rfl, hrow, hl⟩, hb'⟩
    rw [rowK_1] at hrow
    exact ⟨⟨kv, rfl, vs 0, hrow, hl 0 (by omega)⟩, hb'⟩
  | .bin op p a b, kv0, h => by
    obtain ⟨ka, kb, hr, ha, hb0⟩ := h
    have hr' : RowOf W0 S kv0 2 (rowK (k2 a b) (v2 ka kb) 2) := by rw [rowK_2]; exact hr
    obtain ⟨blk, cap, rfl, _, _, hc⟩ := hr'.kids
    intro w hb
    refine (clone_op W0 blk 2 cap op sEmpty 0 p 0 (k2 a b) (v2 ka kb) (by omega) (by omega) (fun i hi => ⟨hc i hi, ?_, ?_⟩) w hb).mono ?_
    · unfold v2; split
      · exact ha.shape
      · exact hb0.shape
    · unfold k2 v2; split
      · exact clone_any W0 S a ka ha
      · exact clone_any W0 S b kb hb0
    rintro e w' ⟨⟨kv, vs, rfl, hrow, hl⟩, hb'⟩
    rw [rowK_2] at hrow
    exact ⟨⟨kv, rfl, vs 0, vs 1, hrow, hl 0 (by omega), hl 1 (by omega)⟩, hb'⟩
  | .cond op p a b c, kv0, h => by
    obtain ⟨ka, kb, kc, hr, ha, hb0, hc0⟩ := h
    have hr' : RowOf W0 S kv0 3 (rowK (k3 a b c) (v3 ka kb kc) 3) := by rw [rowK_3]; exact hr
    obtain ⟨blk, cap, rfl, _, _, hc⟩ := hr'.kids
    intro w hb
    refine (clone_op W0 blk 3 cap op sEmpty 0 p 0 (k3 a b c) (v3 ka kb kc) (by omega) (by omega) (fun i hi => ⟨hc i hi, ?_, ?_⟩) w hb).mono ?_
    · unfold v3; split
      · exact ha.shape
      · split
        · exact hb0.shape
        · exact hc0.shape
    · unfold k3 v3; split
      · exact clone_any W0 S a ka ha
      · split
        · exact clone_any W0 S b kb hb0
        · exact clone_any W0 S c kc hc0
    rintro e w' ⟨⟨kv, vs, rfl, hrow, hl⟩, hb'⟩
    rw [rowK_3] at hrow
    exact ⟨⟨kv, rfl, vs 0, vs 1, vs 2, hrow, hl 0 (by omega), hl 1 (by omega), hl 2 (by omega)⟩, hb'⟩
  | .asg op s p q a, kv0, h => by
    obtain ⟨ka, hr, ha⟩ := h
    have hr' : RowOf W0 S kv0 1 (rowK (k1 a) (v1 ka) 1) := by rw [rowK_1]; exact hr
    obtain ⟨blk, cap, rfl, _, _, hc⟩ := hr'.kids
    intro w hb
    refine (clone_op W0 blk 1 cap op s 0 p q (k1 a) (v1 ka) (by omega) (by omega) (fun i hi => ⟨hc i hi, ha.shape, clone_any W0 S a ka ha⟩) w hb).mono ?_
    rintro e w' ⟨⟨kv, vs, rfl, hrow, hl⟩, hb'⟩
    rw [rowK_1] at hrow
    exact ⟨⟨kv, rfl, vs 0, hrow, hl 0 (by omega)⟩, hb'⟩

set_option maxRecDepth 100000 in
set_option maxHeartbeats 2000000 in
/-- Tree tells a copy of its own. -/
theorem tree_any (E : Nat) (t : Tr) (w : World) (h : ExAt w E t) (hw : t.Wf) :
    Calls Tryd.prog 10 #[.pointer (some ⟨E, 0, none⟩)] w fun e w' => (∃ kv, e = .returned (t.v kv) ∧ t.Lay w' (fun k => w.heap.size ≤ k) kv) ∧ Below w.heap.size w w' := by
  have HN : Hid (∀ W, Below w.heap.size w W → Calls Tryd.prog 21 #[.pointer (some ⟨E, 0, none⟩)] W fun e w' => e = .returned (.bool false) ∧ W = w') := Lib.hid (fun W hW => isNone_no E t W (h.below hW) hw)
  obtain ⟨o, m, hE, hI⟩ := h
  have hEl := lt_of_heap hE
  have HE := Lib.hid hE
  have HC : Hid (∀ X, Below w.heap.size w X → Calls Tryd.prog 22 #[.agg #[.string t.op, .int .i64 t.val, .string t.nm, .int .i64 t.pos, .int .i64 t.apos, .slice o m m]] X fun e w' => (∃ kv, e = .returned (.agg #[.string t.op, .int .i64 t.val, .string t.nm, .int .i64 t.pos, .int .i64 t.apos, kv]) ∧ t.Lay w' (fun b => X.heap.size ≤ b) kv) ∧ Below X.heap.size X w') := Lib.hid (fun X hX => clone_any w _ t _ (hI.lay t _) X hX)
  clear hE hI hw
  go_enter Tryd.func10, Tryd.ntmps10
  go_wp2_with fail
  obtain ⟨W, hW⟩ : ∃ W : World, W = w.alloc (.cells #[.string ⟨#[]⟩, .int .i64 0, .string ⟨#[]⟩, .int .i64 0, .int .i64 0, .slice none 0 0] 36) := ⟨_, rfl⟩
  rw [← hW]
  have HB : Hid (Below w.heap.size w W) := Lib.hid (by rw [hW]; exact (Below.refl _ _).alloc (Nat.le_refl _) _)
  have HR : Hid (W.heap[w.heap.size]? = some (.cells #[.string ⟨#[]⟩, .int .i64 0, .string ⟨#[]⟩, .int .i64 0, .int .i64 0, .slice none 0 0] 36 (0, 0))) := Lib.hid (by rw [hW]; exact heap_alloc_last w _)
  clear hW
  refine (HN.out W HB.out).mono ?_
  rintro e w1 ⟨rfl, rfl⟩
  obtain ⟨⟨c0, c1, c2, c3, c4, c5⟩, _⟩ := six_facts ((HB.out.block E hEl).trans HE.out)
  go_wp2_with fail
  refine (HC.out W HB.out).mono ?_
  rintro e w2 ⟨⟨kv, rfl, hlay⟩, hb2⟩
  obtain ⟨ko, kn, kc, rfl⟩ := hlay.shape
  have HL := Lib.hid hlay
  have HB2 : Hid (Below w.heap.size w w2) := Lib.hid (HB.out.trans (hb2.mono HB.out.size))
  have hWs := lt_of_heap HR.out
  have HR2 : Hid (w2.heap[w.heap.size]? = some (.cells #[.string ⟨#[]⟩, .int .i64 0, .string ⟨#[]⟩, .int .i64 0, .int .i64 0, .slice none 0 0] 36 (0, 0))) := Lib.hid ((hb2.block _ hWs).trans HR.out)
  clear hlay hb2 c0 c1 c2 c3 c4 c5
  go_wp2_with (refine wpList_store_ar rfl _ _ rfl rfl w.heap.size t.op t.val t.nm t.pos t.apos (.slice ko kn kc) rfl rfl rfl _ HR2.out rfl ?_)
  refine bodyPost_ret (results_ar rfl _ _ w.heap.size _ rfl (setRow_self HR2.out _) rfl) rfl ⟨⟨_, rfl, ?_⟩, below_setRow HB2.out (Nat.le_refl _) _⟩
  refine Tr.Lay.mono (fun b hb _ => by omega) t _ (HL.out.kept (fun b hb _ => ?_) t _)
  show (w2.heap.modify w.heap.size _)[b]? = _
  rw [Array.getElem?_modify, if_neg (by omega)]
end Go.Proofs.YtlmoeldillpamaaDoor
