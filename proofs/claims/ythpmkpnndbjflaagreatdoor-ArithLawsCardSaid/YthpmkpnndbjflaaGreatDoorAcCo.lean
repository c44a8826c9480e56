/- compiled, Compile, Len: the code of any tree that reading tells. -/
import Derived.Test.YthpmkpnndbjflaaGreatDoorAcPtB
import Derived.Test.YthpmkpnndbjflaaGreatDoorKMc
namespace Go.Proofs.YthpmkpnndbjflaaGreatDoor
open Go.RowKit

theorem row_memA (s : ByteArray) : ∀ (R : List (List ByteArray)) (k : Nat), 0 < rowFrom s R k → s ∈ R.flatten
  | [], _, h => by simp [rowFrom] at h
  | r :: rs, k, h => by
    unfold rowFrom at h
    by_cases c : r.any (fun x => decide (x = s)) = true
    · obtain ⟨x, hx, e⟩ := List.any_eq_true.1 c
      simp only [decide_eq_true_eq] at e
      subst e
      simp [hx]
    · rw [if_neg c] at h
      have := row_memA s rs (k + 1) h
      simp only [List.flatten_cons, List.mem_append]
      exact Or.inr this
theorem bin_opsA : ∀ s ∈ opRows.flatten, ¬ s = sNum ∧ ¬ s = sName ∧ ¬ s = sQue := by decide
theorem un_opsA : ∀ s ∈ unL, ¬ s = sNum ∧ ¬ s = sName ∧ ¬ s = sQue ∧ ¬ s = sAnd2 ∧ ¬ s = sOr2 := by decide
theorem asg_opsA : ∀ s ∈ opList, (¬ s = sNum ∧ ¬ s = sName) ∧ s.size ≤ 3 := by decide
/-- COMPILING ANY TREE THAT READING TELLS. -/
theorem part_any : ∀ t : Tr, t.Ops → PartC t
  | .num n p, _ => part_num n p
  | .name s p, _ => part_name s p
  | .un op p a, h => by
    obtain ⟨h0, h1, h2, h3, h4⟩ := un_opsA op h.1
    exact part_un op p a (part_any a h.2) h0 h1 h2 h3 h4
  | .bin op p a b, h => by
    obtain ⟨hs, ha, hb⟩ := h
    obtain ⟨h0, h1, h2⟩ := bin_opsA op (row_memA op opRows 0 hs)
    by_cases h3 : op = sAnd2
    · subst h3; exact part_and p a b (part_any a ha) (part_any b hb)
    · by_cases h4 : op = sOr2
      · subst h4; exact part_or p a b (part_any a ha) (part_any b hb)
      · exact part_bin op p a b (part_any a ha) (part_any b hb) h0 h1 h2 h3 h4
  | .cond op p a b c, h => by
    obtain ⟨rfl, ha, hb, hc⟩ := h
    exact part_cond p a b c (part_any a ha) (part_any b hb) (part_any c hc)
  | .asg op s p q a, h => by
    obtain ⟨_, h1, h2, ha⟩ := h
    obtain ⟨⟨g0, g1⟩, g2⟩ := asg_opsA op h1
    exact part_asg op s p q a (part_any a ha) (by omega) h2.1 g0 g1

/-- A code in memory. -/
def CodeAt (w : World) (c : Nat) (l : List Ins) : Prop := ∃ v, w.heap[c]? = some (.cells #[v] 107 (0, 0)) ∧ w.ownsRow 0 149 6 v l.length (rowI l)
theorem own_zeroA {w : World} {B : Nat} {e : TypeId} {k : Nat} {v : Value} {n : Nat} {xs : List Value} (h : w.ownsRow B e k v n xs) : w.ownsRow 0 e k v n xs := by
  obtain ⟨h1, h2 | ⟨g, cap, cur, e, _, h3⟩⟩ := h
  · exact ⟨h1, Or.inl h2⟩
  · exact ⟨h1, Or.inr ⟨g, cap, cur, e, Nat.zero_le _, h3⟩⟩

set_option maxRecDepth 100000 in
set_option maxHeartbeats 8000000 in
theorem compiled_any (t : Tr) (kv : Value) (w : World) (hops : t.Ops) (hlay : t.Lay w (fun k => k < w.heap.size) kv) (hlen : (comp t 0).length ≤ 1000000) :
    Calls Tryz.prog 52 #[t.v kv] w fun x w' => ∃ v, x = .returned v ∧ w'.ownsRow 0 149 6 v (comp t 0).length (rowI (comp t 0)) ∧ Below w.heap.size w w' := by
  obtain ⟨ko, km, kc, rfl⟩ := hlay.shape
  obtain ⟨W1, hW1⟩ : ∃ W1, W1 = w.alloc (.cells #[.string t.op, .int .i64 t.val, .string t.nm, .int .i64 t.pos, .int .i64 t.apos, .slice ko km kc] 60) := ⟨_, rfl⟩
  obtain ⟨W2, hW2⟩ : ∃ W2, W2 = W1.alloc (.cells #[.slice none 0 0] 147) := ⟨_, rfl⟩
  have hs1 : W1.heap.size = w.heap.size + 1 := by rw [hW1]; simp
  have hb1 : Below w.heap.size w W1 := by rw [hW1]; exact (Below.refl _ _).alloc (Nat.le_refl _) _
  have hb2 : Below w.heap.size w W2 := by rw [hW2]; exact hb1.alloc (by omega) _
  have hp : W1.heap[w.heap.size]? = some (.cells #[.string t.op, .int .i64 t.val, .string t.nm, .int .i64 t.pos, .int .i64 t.apos, .slice ko km kc] 60 (0, 0)) := by rw [hW1]; exact last_A w _
  have HP1 := Lib.hid hp
  have HP2 : Hid (W2.heap[w.heap.size]? = some (.cells #[.string t.op, .int .i64 t.val, .string t.nm, .int .i64 t.pos, .int .i64 t.apos, .slice ko km kc] 60 (0, 0))) := Lib.hid (by rw [hW2]; exact blk_allocA hp _)
  have hcb : W2.heap[w.heap.size + 1]? = some (.cells #[.slice none 0 0] 147 (0, 0)) := by rw [hW2, ← hs1]; exact last_A W1 _
  have hco : CoAt w.heap.size (w.heap.size + 1) [] W2 := ⟨Nat.le_succ _, _, hcb, rfl, Or.inl ⟨rfl, rfl⟩⟩
  have HPT : Hid (Calls Tryz.prog 88 #[.pointer (some ⟨w.heap.size + 1, 0, none⟩), t.v (.slice ko km kc)] W2 fun x w' => x = .returned (.tuple #[]) ∧ CoAt w.heap.size (w.heap.size + 1) (comp t 0) w' ∧ ChC w.heap.size W2 w') := Lib.hid (part_any t hops w.heap.size (w.heap.size + 1) _ [] W2 hco hb2.size (hlay.kept (fun k hk _ => hb2.block k hk) t _) (by simpa using hlen))
  have HB2 := Lib.hid hb2
  have HW1 := Lib.hid hW1
  have HW2 := Lib.hid hW2
  have HS1 := Lib.hid hs1
  clear hops hlay hlen hb1 hb2 hp hcb hco hW1 hW2 hs1
  unfold Tr.v at HPT ⊢
  go_enter Tryz.func52, Tryz.ntmps52
  go_upto_region 1 with fail
  rw [← HW1.out]
  go_upto_region 2 with fail
  rw [HS1.out]
  rw [← HW2.out]
  obtain ⟨c0, c1, c2, c3, c4, c5, hz1⟩ := cells6A HP2.out
  go_wp2_with fail
  refine HPT.out.mono ?_
  rintro x w3 ⟨rfl, ⟨_, v, hv, hrow⟩, hc⟩
  obtain ⟨va, vc, rfl⟩ := own_shapeA hrow
  have HRW := Lib.hid (own_zeroA hrow)
  have HBW := Lib.hid (HB2.out.trans hc.bel)
  obtain ⟨d0, _, hz2⟩ := cells1A hv
  clear hv hrow hc c0 c1 c2 c3 c4 c5 hz1
  go_wp2_with fail
  go_ret
  exact ⟨_, rfl, HRW.out, HBW.out⟩

set_option maxRecDepth 100000 in
set_option maxHeartbeats 8000000 in
theorem compile_any (E : Nat) (t : Tr) (w : World) (h : ExAt w E t) (hw : t.Wf) (hops : t.Ops) (hlen : (comp t 0).length ≤ 1000000) :
    Calls Tryz.prog 24 #[.pointer (some ⟨E, 0, none⟩)] w fun x w' => (∃ c, x = .returned (.pointer (some ⟨c, 0, none⟩)) ∧ CodeAt w' c (comp t 0)) ∧ Below w.heap.size w w' := by
  have HT := Lib.hid (tree_any E t w h hw)
  have hne : t.op.toList.isEmpty = false := by have := tl_no (l := []) hw.op; simpa using this
  have HCP : Hid (∀ kv X, t.Lay X (fun k => k < X.heap.size) kv → Calls Tryz.prog 52 #[t.v kv] X fun x w' => ∃ v, x = .returned v ∧ w'.ownsRow 0 149 6 v (comp t 0).length (rowI (comp t 0)) ∧ Below X.heap.size X w') := Lib.hid (fun kv X hX => compiled_any t kv X hops hX hlen)
  clear h hw hops hlen
  unfold Tr.v at HT HCP
  go_enter Tryz.func24, Tryz.ntmps24
  go_wp2_with fail
  refine HT.out.mono ?_
  rintro x w1 ⟨⟨kv, rfl, hlay⟩, hb1⟩
  obtain ⟨ko, km, kc, rfl⟩ := hlay.shape
  have HL := Lib.hid hlay
  have HB1 := Lib.hid hb1
  clear hlay hb1
  obtain ⟨W2, hW2⟩ : ∃ W2, W2 = w1.alloc (.cells #[.string ⟨#[]⟩, .int .i64 0, .string ⟨#[]⟩, .int .i64 0, .int .i64 0, .slice none 0 0] 60) := ⟨_, rfl⟩
  obtain ⟨W3, hW3⟩ : ∃ W3, W3 = W2.setRow w1.heap.size #[.string t.op, .int .i64 t.val, .string t.nm, .int .i64 t.pos, .int .i64 t.apos, .slice ko km kc] := ⟨_, rfl⟩
  have h2 : W2.heap[w1.heap.size]? = some (.cells #[.string ⟨#[]⟩, .int .i64 0, .string ⟨#[]⟩, .int .i64 0, .int .i64 0, .slice none 0 0] 60 (0, 0)) := by rw [hW2]; exact last_A w1 _
  have h3 : W3.heap[w1.heap.size]? = some (.cells #[.string t.op, .int .i64 t.val, .string t.nm, .int .i64 t.pos, .int .i64 t.apos, .slice ko km kc] 60 (0, 0)) := by rw [hW3]; exact setRow_self h2 _
  have hb3 : Below w1.heap.size w1 W3 := by rw [hW3]; exact below_setRow (by rw [hW2]; exact (Below.refl _ _).alloc (Nat.le_refl _) _) (Nat.le_refl _) _
  have HB3 := Lib.hid hb3
  have HP2 := Lib.hid h2
  have HP3 := Lib.hid h3
  have HW2 := Lib.hid hW2
  have HW3 := Lib.hid hW3
  have HCQ : Hid (Calls Tryz.prog 52 #[.agg #[.string t.op, .int .i64 t.val, .string t.nm, .int .i64 t.pos, .int .i64 t.apos, .slice ko km kc]] W3 fun x w' => ∃ v, x = .returned v ∧ w'.ownsRow 0 149 6 v (comp t 0).length (rowI (comp t 0)) ∧ Below W3.heap.size W3 w') := Lib.hid (HCP.out _ W3 (Tr.Lay.mono (fun k _ hk => hk) t _ (HL.out.kept (fun k _ hk => hb3.block k hk) t _)))
  clear hb3 h2 h3 hW2 hW3
  go_upto_region 2 with (first | (refine wpList_store_ar rfl _ _ rfl rfl w1.heap.size t.op t.val t.nm t.pos t.apos (.slice ko km kc) rfl rfl rfl _ (by rw [← HW2.out]; exact HP2.out) rfl ?_))
  rw [← HW2.out, ← HW3.out]
  obtain ⟨c0, c1, c2, c3, c4, c5, hz1⟩ := cells6A HP3.out
  go_wp2_with fail
  refine HCQ.out.mono ?_
  rintro x w4 ⟨v, rfl, hrow, hb4⟩
  obtain ⟨va, vc, rfl⟩ := own_shapeA hrow
  have HRW := Lib.hid hrow
  have HB4 := Lib.hid hb4
  clear hrow hb4 c0 c1 c2 c3 c4 c5 hz1
  go_wp2_with fail
  go_ret
  have hb5 : Below w4.heap.size w4 (w4.alloc (.cells #[.slice va (comp t 0).length vc] 107)) := (Below.refl _ _).alloc (Nat.le_refl _) _
  exact ⟨⟨_, rfl, _, last_A w4 _, owns_below HRW.out hb5⟩, HB1.out.trans ((HB3.out.trans ((HB4.out.mono HB3.out.size).trans (hb5.mono (Nat.le_trans HB3.out.size HB4.out.size)))).mono HB1.out.size)⟩
end Go.Proofs.YthpmkpnndbjflaaGreatDoor
