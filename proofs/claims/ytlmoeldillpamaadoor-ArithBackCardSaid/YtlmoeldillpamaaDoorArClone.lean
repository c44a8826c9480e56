/- The contract of clone. -/
import Derived.Test.YtlmoeldillpamaaDoorArLay
import Derived.Deep.RegionHeld3
import Derived.Deep.LoopGhost
namespace Go.Proofs.YtlmoeldillpamaaDoor
open Go.RowKit

/-- Cloning a tree that lies with its kids in kv0: a copy of its own. -/
def Clones (W0 : World) (t : Tr) (kv0 : Value) : Prop := ∀ w, Below W0.heap.size W0 w → Calls Tryd.prog 22 #[t.v kv0] w fun e w' => (∃ kv, e = .returned (t.v kv) ∧ t.Lay w' (fun k => w.heap.size ≤ k) kv) ∧ Below w.heap.size w w'

theorem ar_bytes : (Tryd.prog.info? 36).map (fun i => (i.zero.map (·.cells.size), i.size, i.bytes)) = some (some 6, 6, 80) := by kernel_rfl

set_option maxRecDepth 100000 in
set_option maxHeartbeats 4000000 in
theorem clone_leaf (op nm : ByteArray) (nv p q : Int) (w : World) :
    Calls Tryd.prog 22 #[.agg #[.string op, .int .i64 nv, .string nm, .int .i64 p, .int .i64 q, .slice none 0 0]] w fun e w' => e = .returned (.agg #[.string op, .int .i64 nv, .string nm, .int .i64 p, .int .i64 q, .slice none 0 0]) ∧ Below w.heap.size w w' := by
  go_enter Tryd.func22, Tryd.ntmps22
  go_wp2_with fail
  obtain ⟨W, hW⟩ : ∃ W : World, W = (w.alloc (.cells #[.string op, .int .i64 nv, .string nm, .int .i64 p, .int .i64 q, .slice none 0 0] 36)).alloc (.cells #[.string ⟨#[]⟩, .int .i64 0, .string ⟨#[]⟩, .int .i64 0, .int .i64 0, .slice none 0 0] 36) := ⟨_, rfl⟩
  rw [← hW]
  have HB : Hid (Below w.heap.size w W) := Lib.hid (by rw [hW]; exact ((Below.refl _ _).alloc (Nat.le_refl _) _).alloc (by simp) _)
  have HP : Hid (W.heap[w.heap.size]? = some (.cells #[.string op, .int .i64 nv, .string nm, .int .i64 p, .int .i64 q, .slice none 0 0] 36 (0, 0))) := Lib.hid (by rw [hW]; exact alloc_keeps (heap_alloc_last w _) _)
  have HR : Hid (W.heap[w.heap.size + 1]? = some (.cells #[.string ⟨#[]⟩, .int .i64 0, .string ⟨#[]⟩, .int .i64 0, .int .i64 0, .slice none 0 0] 36 (0, 0))) := Lib.hid (by
    rw [hW]
    have := heap_alloc_last (w.alloc (.cells #[.string op, .int .i64 nv, .string nm, .int .i64 p, .int .i64 q, .slice none 0 0] 36)) (.cells #[.string ⟨#[]⟩, .int .i64 0, .string ⟨#[]⟩, .int .i64 0, .int .i64 0, .slice none 0 0] 36)
    simpa using this)
  clear hW
  go_loop [5, 11] (fun _ i => i = .int .i64 0) (fun _ _ => 0)
  case atStart => rfl
  case round =>
    obtain rfl := hrel
    obtain ⟨⟨c0, c1, c2, c3, c4, c5⟩, _⟩ := six_facts HP.out
    go_wp2_with (refine wpList_store_ar rfl _ _ rfl rfl (w.heap.size + 1) op nv nm p q (.slice none 0 0) rfl rfl rfl _ HR.out rfl ?_)
    exact bodyPost_ret (results_ar rfl _ _ (w.heap.size + 1) _ rfl (setRow_self HR.out _) rfl) rfl ⟨rfl, below_setRow HB.out (by omega) _⟩

/-- The cells of the first k kids. -/
def rowK (ks : Nat → Tr) (vs : Nat → Value) (k : Nat) : List Value := ((List.range k).map fun i => (ks i).cells (vs i)).flatten
theorem rowK_zero (ks : Nat → Tr) (vs : Nat → Value) : rowK ks vs 0 = [] := rfl
theorem rowK_succ (ks : Nat → Tr) (vs : Nat → Value) (k : Nat) : rowK ks vs (k + 1) = rowK ks vs k ++ (ks k).cells (vs k) := by
  unfold rowK
  rw [List.range_succ, List.map_append, List.flatten_append]
  simp
theorem rowK_same (ks : Nat → Tr) (vs vs' : Nat → Value) (k : Nat) (h : ∀ i, i < k → vs i = vs' i) : rowK ks vs k = rowK ks vs' k := by
  unfold rowK
  congr 1
  apply List.map_congr_left
  intro i hi
  rw [h i (List.mem_range.1 hi)]

/-- The loop's state: k kids are done. -/
structure CloI (w : World) (op nm : ByteArray) (nv p q : Int) (ks : Nat → Tr) (k : Nat) (kv : Value) (vs : Nat → Value) (W : World) : Prop where
  pb : W.heap[w.heap.size]? = some (.cells #[.string op, .int .i64 nv, .string nm, .int .i64 p, .int .i64 q, kv] 36 (0, 0))
  rb : W.heap[w.heap.size + 1]? = some (.cells #[.string ⟨#[]⟩, .int .i64 0, .string ⟨#[]⟩, .int .i64 0, .int .i64 0, .slice none 0 0] 36 (0, 0))
  own : W.ownsRow (w.heap.size + 2) 36 6 kv k (rowK ks vs k)
  lay : ∀ i, i < k → (ks i).Lay W (fun b => w.heap.size + 2 ≤ b ∧ some b ≠ kv.ownBlock) (vs i)
  bel : Below w.heap.size w W
theorem CloI.hi {w : World} {op nm : ByteArray} {nv p q : Int} {ks : Nat → Tr} {k : Nat} {kv : Value} {vs : Nat → Value} {W : World} (h : CloI w op nm nv p q ks k kv vs W) : w.heap.size + 2 ≤ W.heap.size := by have := lt_of_heap h.rb; omega
theorem CloI.next {w : World} {op nm : ByteArray} {nv p q : Int} {ks : Nat → Tr} {k : Nat} {kv : Value} {vs : Nat → Value} {W W' : World} (h : CloI w op nm nv p q ks k kv vs W) (hb : Below W.heap.size W W') : CloI w op nm nv p q ks k kv vs W' where
  pb := (hb.block _ (lt_of_heap h.pb)).trans h.pb
  rb := (hb.block _ (lt_of_heap h.rb)).trans h.rb
  own := h.own.kept ⟨hb.os, hb.tape, hb.output, hb.size, fun b hb' _ => hb.block b hb'⟩ (row := none) (by
    cases hv : kv.ownBlock with
    | none => exact Or.inl rfl
    | some b => exact Or.inr (by simp))
  lay i hi := (h.lay i hi).kept (fun b _ hb' => hb.block b hb') _ _
  bel := h.bel.trans (hb.mono h.bel.size)
theorem CloI.shape {w : World} {op nm : ByteArray} {nv p q : Int} {ks : Nat → Tr} {k : Nat} {kv : Value} {vs : Nat → Value} {W : World} (h : CloI w op nm nv p q ks k kv vs W) : ∃ a cap, kv = .slice a k cap := by
  obtain ⟨_, ⟨rfl, rfl⟩ | ⟨g, cap, cur, rfl, _⟩⟩ := h.own
  · exact ⟨none, 0, rfl⟩
  · exact ⟨_, cap, rfl⟩
/-- One kid more: after the append and the store. -/
theorem CloI.succ {w : World} {op nm : ByteArray} {nv p q : Int} {ks : Nat → Tr} {k : Nat} {kv kn v' : Value} {vs : Nat → Value} {W W' : World} (h : CloI w op nm nv p q ks k kv vs W)
    (hl : (ks k).Lay W (fun b => w.heap.size + 2 ≤ b ∧ some b ≠ kv.ownBlock) kn) (ho : W'.ownsRow (w.heap.size + 2) 36 6 v' (k + 1) (rowK ks vs k ++ (ks k).cells kn)) (hg : W.grownBy W' kv.ownBlock) (hv : v'.ownBlock = kv.ownBlock ∨ v'.ownBlock = some W.heap.size) :
    CloI w op nm nv p q ks (k + 1) v' (fun i => if i = k then kn else vs i) (W'.setCell ⟨w.heap.size, 5, none⟩ v') := by
  have hlt : ∀ x, kv.ownBlock = some x → w.heap.size + 2 ≤ x ∧ x < W.heap.size := fun x hx => h.own.lt x hx
  have hne : ∀ b, b < w.heap.size + 2 → some b ≠ kv.ownBlock := fun b hb e => by have := (hlt b e.symm).1; omega
  have hP : W'.heap[w.heap.size]? = some (.cells #[.string op, .int .i64 nv, .string nm, .int .i64 p, .int .i64 q, kv] 36 (0, 0)) := (hg.block _ (lt_of_heap h.pb) (hne _ (by omega))).trans h.pb
  have hrow : rowK ks (fun i => if i = k then kn else vs i) (k + 1) = rowK ks vs k ++ (ks k).cells kn := by
    rw [rowK_succ, rowK_same ks _ vs k (fun i hi => if_neg (by omega)), if_pos rfl]
  have keep : ∀ b, (w.heap.size + 2 ≤ b ∧ some b ≠ kv.ownBlock) → b < W.heap.size → (W'.setCell ⟨w.heap.size, 5, none⟩ v').heap[b]? = W.heap[b]? := fun b ⟨h1, h2⟩ hb => by
    rw [Below.heap_setCell _ _ _ _ (by show b ≠ w.heap.size; omega)]
    exact hg.block b hb h2
  have mono : ∀ b, (w.heap.size + 2 ≤ b ∧ some b ≠ kv.ownBlock) → b < W.heap.size → (w.heap.size + 2 ≤ b ∧ some b ≠ v'.ownBlock) := fun b ⟨h1, h2⟩ hb => by
    refine ⟨h1, ?_⟩
    rcases hv with e | e
    · rw [e]; exact h2
    · rw [e]; intro e'; have := Option.some.inj e'; omega
  exact {
    pb := set_block hP 5 v'
    rb := by
      rw [Below.heap_setCell _ _ _ _ (by show w.heap.size + 1 ≠ w.heap.size; omega)]
      exact (hg.block _ (lt_of_heap h.rb) (hne _ (by omega))).trans h.rb
    own := by
      rw [hrow]
      exact ownsRow_setCell_below ho (by show w.heap.size < w.heap.size + 2; omega) v'
    lay := fun i hi => by
      have tr : ∀ (t : Tr) (x : Value), t.Lay W (fun b => w.heap.size + 2 ≤ b ∧ some b ≠ kv.ownBlock) x → t.Lay (W'.setCell ⟨w.heap.size, 5, none⟩ v') (fun b => w.heap.size + 2 ≤ b ∧ some b ≠ v'.ownBlock) x := fun t x hx => by
        have h1 := Tr.Lay.mono (S' := fun b => (w.heap.size + 2 ≤ b ∧ some b ≠ kv.ownBlock) ∧ some b ≠ v'.ownBlock) (fun b hb hb' => ⟨hb, (mono b hb hb').2⟩) t x hx
        have h2 := Tr.Lay.kept (w' := W'.setCell ⟨w.heap.size, 5, none⟩ v') (fun b hb hb' => keep b hb.1 hb') t x h1
        exact Tr.Lay.mono (fun b hb _ => ⟨hb.1.1, hb.2⟩) t x h2
      by_cases hik : i = k
      · subst hik
        simp only [if_true]
        exact tr _ _ hl
      · simp only [if_neg hik]
        exact tr _ _ (h.lay i (by omega))
    bel := (h.bel.grown hg h.bel.size (fun j hj => by have := (hlt j hj).1; omega)).setCell (p := ⟨w.heap.size, 5, none⟩) (Nat.le_refl _) _ }

theorem own_shape6 {w : World} {base : Nat} {e : TypeId} {v : Value} {n : Nat} {xs : List Value} (h : w.ownsRow base e 6 v n xs) : ∃ a cap, v = .slice a n cap := by
  obtain ⟨_, ⟨rfl, rfl⟩ | ⟨g, cap, cur, rfl, _⟩⟩ := h
  · exact ⟨none, 0, rfl⟩
  · exact ⟨_, cap, rfl⟩
theorem rowOf_own {w : World} {base : Nat} {v : Value} {n : Nat} {xs : List Value} (h : w.ownsRow base 36 6 v n xs) (hn : 1 ≤ n) : RowOf w (fun b => base ≤ b) v n xs := by
  obtain ⟨_, ⟨rfl, rfl⟩ | ⟨g, cap, cur, rfl, hb, hg, hnc, hcm, hcs, ht⟩⟩ := h
  · omega
  · exact ⟨g, cap, cur, rfl, hb, hnc, hcm, hg, ht⟩
theorem new_cells {w : World} {b : Nat} {xs : List Value} {t : TypeId} (h : w.heap[b]? = some (.cells xs.toArray t (0, 0))) : ∀ j u, xs[j]? = some u → w.cell? ((⟨b, 0, none⟩ : Addr).add j) = some u := by
  intro j u hj
  rw [WideShapes.add_plain, Nat.zero_add]
  simp [World.cell?, h, hj]
theorem ar_parts : ∃ (i : TypeInfo) (z : Value), Tryd.prog.info? 36 = some i ∧ i.zero = some z ∧ i.size = 6 ∧ i.bytes = 80 ∧ z.cells.size = 6 := by
  have h := ar_bytes
  cases hi : Tryd.prog.info? 36 with
  | none => rw [hi] at h; cases h
  | some i =>
    rw [hi] at h
    simp only [Option.map_some, Option.some.injEq, Prod.mk.injEq] at h
    obtain ⟨hz, hs, hb⟩ := h
    cases hzz : i.zero with
    | none => rw [hzz] at hz; cases hz
    | some z =>
      rw [hzz] at hz
      simp only [Option.map_some, Option.some.injEq] at hz
      exact ⟨i, z, rfl, hzz, hs, hb, hz⟩

set_option maxRecDepth 100000 in
set_option maxHeartbeats 8000000 in
theorem clone_op (W0 : World) (blk n cap0 : Nat) (op nm : ByteArray) (nv p q : Int) (ks : Nat → Tr) (vs0 : Nat → Value) (hn : 1 ≤ n) (hn3 : n ≤ 3)
    (hks : ∀ i, i < n → (W0.cell? ⟨blk, i * 6, none⟩ = some (.string (ks i).op) ∧ W0.cell? ⟨blk, i * 6 + 1, none⟩ = some (.int .i64 (ks i).val) ∧ W0.cell? ⟨blk, i * 6 + 2, none⟩ = some (.string (ks i).nm) ∧ W0.cell? ⟨blk, i * 6 + 3, none⟩ = some (.int .i64 (ks i).pos) ∧ W0.cell? ⟨blk, i * 6 + 4, none⟩ = some (.int .i64 (ks i).apos) ∧ W0.cell? ⟨blk, i * 6 + 5, none⟩ = some (vs0 i)) ∧ (∃ a m c, vs0 i = .slice a m c) ∧ Clones W0 (ks i) (vs0 i))
    (w : World) (hb : Below W0.heap.size W0 w) :
    Calls Tryd.prog 22 #[.agg #[.string op, .int .i64 nv, .string nm, .int .i64 p, .int .i64 q, .slice (some ⟨blk, 0, none⟩) n cap0]] w fun e w' =>
      (∃ kv vs, e = .returned (.agg #[.string op, .int .i64 nv, .string nm, .int .i64 p, .int .i64 q, kv]) ∧ RowOf w' (fun b => w.heap.size ≤ b) kv n (rowK ks vs n) ∧ ∀ i, i < n → (ks i).Lay w' (fun b => w.heap.size ≤ b) (vs i)) ∧ Below w.heap.size w w' := by
  obtain ⟨i0, z0, hi, hz0, hz1, hz2, hz3⟩ := ar_parts
  have HK := Lib.hid hks
  have HW0 : Hid (∀ X, Below w.heap.size w X → Below W0.heap.size W0 X) := Lib.hid (fun X hX => hb.trans (hX.mono hb.size))
  clear hks hb
  go_enter Tryd.func22, Tryd.ntmps22
  go_wp2_with fail
  obtain ⟨W, hW⟩ : ∃ W : World, W = (w.alloc (.cells #[.string op, .int .i64 nv, .string nm, .int .i64 p, .int .i64 q, .slice none 0 0] 36)).alloc (.cells #[.string ⟨#[]⟩, .int .i64 0, .string ⟨#[]⟩, .int .i64 0, .int .i64 0, .slice none 0 0] 36) := ⟨_, rfl⟩
  rw [← hW]
  have HI : Hid (CloI w op nm nv p q ks 0 (.slice none 0 0) vs0 W) := Lib.hid (by
    rw [hW]
    exact {
      pb := alloc_keeps (heap_alloc_last w _) _
      rb := by
        have := heap_alloc_last (w.alloc (.cells #[.string op, .int .i64 nv, .string nm, .int .i64 p, .int .i64 q, .slice none 0 0] 36)) (.cells #[.string ⟨#[]⟩, .int .i64 0, .string ⟨#[]⟩, .int .i64 0, .int .i64 0, .slice none 0 0] 36)
        simpa using this
      own := World.ownsRow_nil _ _ _ _
      lay := fun i hi => absurd hi (by omega)
      bel := ((Below.refl _ _).alloc (Nat.le_refl _) _).alloc (by simp) _ })
  clear hW
  go_loopg [5, 11] n (fun g _ s11 wr => ∃ (k : Nat) (kv : Value) (vs : Nat → Value), g = n - k ∧ k ≤ n ∧ s11 = .int .i64 k ∧ Aside (CloI w op nm nv p q ks k kv vs wr))
  case atStart => exact ⟨0, _, _, by omega, by omega, rfl, HI.out⟩
  case round =>
    obtain ⟨k, kv, vs, hg, hk, rfl, A1⟩ := hrel
    have HG := Lib.hid hg
    have HIr := Lib.hid A1.out
    clear hg A1 HI
    obtain ⟨oa, oc, rfl⟩ := HIr.out.shape
    by_cases hlt : k < n
    · have hki : (k : Int) < (n : Int) := by omega
      obtain ⟨⟨x0, x1, x2, x3, x4, x5⟩, ⟨ka, km, kc, hv0⟩, hcl⟩ := HK.out k hlt
      rw [hv0] at x5 hcl
      have HC : Hid (∀ X, Below W0.heap.size W0 X → Calls Tryd.prog 22 #[.agg #[.string (ks k).op, .int .i64 (ks k).val, .string (ks k).nm, .int .i64 (ks k).pos, .int .i64 (ks k).apos, .slice ka km kc]] X fun e w' => (∃ kv, e = .returned (.agg #[.string (ks k).op, .int .i64 (ks k).val, .string (ks k).nm, .int .i64 (ks k).pos, .int .i64 (ks k).apos, kv]) ∧ (ks k).Lay w' (fun b => X.heap.size ≤ b) kv) ∧ Below X.heap.size X w') := Lib.hid (fun X hX => hcl X hX)
      clear hv0 hcl
      have HBr := Lib.hid (HW0.out wr HIr.out.bel)
      have hc : ∀ j u, W0.cell? ⟨blk, j, none⟩ = some u → wr.cell? ⟨blk, j, none⟩ = some u := fun j u h => cell_kept HBr.out h
      have y0 := hc _ _ x0
      have y1 := hc _ _ x1
      have y2 := hc _ _ x2
      have y3 := hc _ _ x3
      have y4 := hc _ _ x4
      have y5 := hc _ _ x5
      clear hc x0 x1 x2 x3 x4 x5
      have HOW : Hid (∀ x, (Value.slice oa k oc).ownBlock = some x → x < wr.heap.size) := Lib.hid (fun x hx => (HIr.out.own.lt x hx).2)
      have hhi := HIr.out.hi
      go_wp2_with fail
      clear y0 y1 y2 y3 y4 y5
      obtain ⟨X0, hX0⟩ : ∃ X0 : World, X0 = (wr.alloc (.cells #[.string (ks k).op, .int .i64 (ks k).val, .string (ks k).nm, .int .i64 (ks k).pos, .int .i64 (ks k).apos, .slice ka km kc] 36)).drew := ⟨_, rfl⟩
      have HIX0 : Hid (CloI w op nm nv p q ks k (.slice oa k oc) vs X0) := Lib.hid (by rw [hX0]; exact HIr.out.next (below_drew_alloc wr _))
      have HSX0 : Hid (X0.heap[wr.heap.size]? = some (.cells #[.string (ks k).op, .int .i64 (ks k).val, .string (ks k).nm, .int .i64 (ks k).pos, .int .i64 (ks k).apos, .slice ka km kc] 36 (0, 0))) := Lib.hid (by rw [hX0]; exact heap_alloc_last wr _)
      refine wp_region_held (S := fun X => X.heap[wr.heap.size]? = some (.cells #[.string (ks k).op, .int .i64 (ks k).val, .string (ks k).nm, .int .i64 (ks k).pos, .int .i64 (ks k).apos, .slice ka km kc] 36 (0, 0))) (by kernel_rfl) ?_
      try (change wpAnyH _ _ _ _ _ _ _ _ (World.drew _))
      rw [← hX0]
      clear hX0
      refine wpAnyH_take (i := 0) (v := .pointer (some ⟨w.heap.size, 5, none⟩)) rfl (by kernel_rfl) (by kernel_rfl) (by kernel_rfl) (fun _ _ _ h => h) (Or.inl ⟨by kernel_rfl, ?_⟩) HSX0.out ?_
      · intro X hS; go_simp
      refine wpAnyH_take (i := 2) (v := .agg #[.string (ks k).op, .int .i64 (ks k).val, .string (ks k).nm, .int .i64 (ks k).pos, .int .i64 (ks k).apos, .slice ka km kc]) rfl (by kernel_rfl) (by kernel_rfl) (by kernel_rfl) (fun _ _ _ h => h) (Or.inl ⟨by kernel_rfl, ?_⟩) HSX0.out ?_
      · intro X hS
        have hS' : X.heap[wr.heap.size]? = some (.cells #[.string (ks k).op, .int .i64 (ks k).val, .string (ks k).nm, .int .i64 (ks k).pos, .int .i64 (ks k).apos, .slice ka km kc] 36 (0, 0)) := hS
        obtain ⟨⟨z0, z1, z2, z3, z4, z5⟩, _⟩ := six_facts hS'
        clear hS hS'
        go_simp
      refine wpAnyH_all (rs := [1, 3]) (by kernel_rfl) (by simp) ?_
      intro ii hii
      rw [List.mem_cons, List.mem_singleton] at hii
      rcases hii with hii | hii
      · subst hii
        refine wpOp_step (by rfl) ?_
        intro K' hK'
        have q5 : X0.cell? ⟨w.heap.size, 5, none⟩ = some (.slice oa k oc) := (six_facts HIX0.out.pb).1.2.2.2.2.2
        go_simp
        refine hK' _ _ ⟨HSX0.out, ?_⟩
        clear hK' q5
        refine wpAnyH_all (rs := [3]) (by kernel_rfl) (by simp) ?_
        intro ii hii
        rw [List.mem_singleton] at hii
        subst hii
        refine wpOp_step (by rfl) ?_
        intro K' hK'
        go_simp
        go_at_call 22
        refine (HC.out X0 (HW0.out _ HIX0.out.bel)).mono ?_
        rintro e X1 ⟨⟨kn, rfl, hlay⟩, hbX⟩
        obtain ⟨no, nn, nc, rfl⟩ := hlay.shape
        have HIX1 := Lib.hid (HIX0.out.next hbX)
        have HSX1 : Hid (X1.heap[wr.heap.size]? = some (.cells #[.string (ks k).op, .int .i64 (ks k).val, .string (ks k).nm, .int .i64 (ks k).pos, .int .i64 (ks k).apos, .slice ka km kc] 36 (0, 0))) := Lib.hid ((hbX.block _ (lt_of_heap HSX0.out)).trans HSX0.out)
        have HLX1 : Hid ((ks k).Lay X1 (fun b => w.heap.size + 2 ≤ b ∧ some b ≠ (Value.slice oa k oc).ownBlock) (.slice no nn nc)) := Lib.hid (Tr.Lay.mono (fun b hb _ => ⟨Nat.le_trans HIX0.out.hi hb, fun e => by have := (HIX0.out.own.lt b e.symm).2; omega⟩) _ _ hlay)
        clear hlay hbX
        refine hK' _ _ ⟨HSX1.out, ?_⟩
        clear hK'
        refine wpAnyH_all (rs := [4]) (by kernel_rfl) (by simp) ?_
        intro ii hii
        rw [List.mem_singleton] at hii
        subst hii
        refine wpOp_step (by rfl) ?_
        intro K' hK'
        go_simp
        obtain ⟨X2, hX2⟩ : ∃ X2 : World, X2 = X1.alloc (.cells #[.string (ks k).op, .int .i64 (ks k).val, .string (ks k).nm, .int .i64 (ks k).pos, .int .i64 (ks k).apos, .slice no nn nc] 36) := ⟨_, rfl⟩
        rw [← hX2]
        have HIX2 : Hid (CloI w op nm nv p q ks k (.slice oa k oc) vs X2) := Lib.hid (by rw [hX2]; exact HIX1.out.next ((Below.refl _ _).alloc (Nat.le_refl _) _))
        have HSX2 : Hid (X2.heap[wr.heap.size]? = some (.cells #[.string (ks k).op, .int .i64 (ks k).val, .string (ks k).nm, .int .i64 (ks k).pos, .int .i64 (ks k).apos, .slice ka km kc] 36 (0, 0))) := Lib.hid (by rw [hX2]; exact alloc_keeps HSX1.out _)
        have HLX2 : Hid ((ks k).Lay X2 (fun b => w.heap.size + 2 ≤ b ∧ some b ≠ (Value.slice oa k oc).ownBlock) (.slice no nn nc)) := Lib.hid (by rw [hX2]; exact HLX1.out.kept (fun b _ hb => alloc_at_old _ _ b hb) _ _)
        have HNX2 : Hid (X2.heap[X1.heap.size]? = some (.cells #[.string (ks k).op, .int .i64 (ks k).val, .string (ks k).nm, .int .i64 (ks k).pos, .int .i64 (ks k).apos, .slice no nn nc] 36 (0, 0))) := Lib.hid (by rw [hX2]; exact heap_alloc_last X1 _)
        clear hX2
        refine hK' _ _ ⟨HSX2.out, ?_⟩
        clear hK'
        refine wpAnyH_all (rs := [5]) (by kernel_rfl) (by simp) ?_
        intro ii hii
        rw [List.mem_singleton] at hii
        subst hii
        refine wpOp_step (by rfl) ?_
        intro K' hK'
        refine step_append_own2 rfl (.tmp 16) (.tmp 19) 34 rfl (w.heap.size + 2) 36 i0 z0 6 80 Tryd.underlying34 hi hz0 hz1 hz2 hz3 (by decide) (.slice oa k oc) k _ rfl HIX2.out.own ⟨X1.heap.size, 0, none⟩ 1 1 ((ks k).cells (.slice no nn nc)) rfl rfl ?_ ?_ (by decide) (by unfold maxLen; omega) (by omega) HIX2.out.hi ?_
        · exact new_cells HNX2.out
        · intro u hu; simp only [Tr.cells, List.mem_cons, List.not_mem_nil, or_false] at hu; rcases hu with rfl | rfl | rfl | rfl | rfl | rfl <;> rfl
        intro v' X3 hown hg hv
        obtain ⟨va, vc, rfl⟩ := own_shape6 hown
        have HSX3 : Hid (X3.heap[wr.heap.size]? = some (.cells #[.string (ks k).op, .int .i64 (ks k).val, .string (ks k).nm, .int .i64 (ks k).pos, .int .i64 (ks k).apos, .slice ka km kc] 36 (0, 0))) := Lib.hid ((hg.block _ (lt_of_heap HSX2.out) (fun e => by have := HOW.out _ e.symm; omega)).trans HSX2.out)
        have HPX3 : Hid (X3.heap[w.heap.size]? = some (.cells #[.string op, .int .i64 nv, .string nm, .int .i64 p, .int .i64 q, (.slice oa k oc)] 36 (0, 0))) := Lib.hid ((hg.block _ (lt_of_heap HIX2.out.pb) (fun e => by have := (HIX2.out.own.lt _ e.symm).1; omega)).trans HIX2.out.pb)
        have HIX4 := Lib.hid (HIX2.out.succ HLX2.out hown hg hv)
        clear hown hg hv
        refine hK' _ _ ⟨HSX3.out, ?_⟩
        clear hK'
        refine wpAnyH_take (i := 6) (v := .pointer (some ⟨w.heap.size, 5, none⟩)) rfl (by kernel_rfl) (by kernel_rfl) (by kernel_rfl) (fun _ _ _ h => h) (Or.inl ⟨by kernel_rfl, ?_⟩) HSX3.out ?_
        · intro X hS; go_simp
        refine wpAnyH_all (rs := [7]) (by kernel_rfl) (by simp) ?_
        intro ii hii
        rw [List.mem_singleton] at hii
        subst hii
        refine wpOp_step (by rfl) ?_
        intro K' hK'
        obtain ⟨⟨_, _, _, _, _, q5⟩, ⟨_, _, _, _, _, f5⟩⟩ := six_facts HPX3.out
        go_simp
        refine hK' _ _ ⟨?_, ?_⟩
        · exact (Below.heap_setCell _ _ _ _ (by show wr.heap.size ≠ w.heap.size; omega)).trans HSX3.out
        clear hK' q5 f5
        refine wpAnyH_done (by kernel_rfl) ?_ _
        go_wp2_with fail
        go_roundg (n - (k + 1))
        case measure => have := HG.out; omega
        case rel => exact ⟨k + 1, _, _, rfl, by omega, by go_num, HIX4.out⟩
      · subst hii
        refine wpOp_step (by rfl) ?_
        intro K' hK'
        go_simp
        go_at_call 22
        refine (HC.out X0 (HW0.out _ HIX0.out.bel)).mono ?_
        rintro e X5 ⟨⟨kn, rfl, hlay⟩, hbX⟩
        obtain ⟨no, nn, nc, rfl⟩ := hlay.shape
        have HIX5 := Lib.hid (HIX0.out.next hbX)
        have HSX5 : Hid (X5.heap[wr.heap.size]? = some (.cells #[.string (ks k).op, .int .i64 (ks k).val, .string (ks k).nm, .int .i64 (ks k).pos, .int .i64 (ks k).apos, .slice ka km kc] 36 (0, 0))) := Lib.hid ((hbX.block _ (lt_of_heap HSX0.out)).trans HSX0.out)
        have HLX5 : Hid ((ks k).Lay X5 (fun b => w.heap.size + 2 ≤ b ∧ some b ≠ (Value.slice oa k oc).ownBlock) (.slice no nn nc)) := Lib.hid (Tr.Lay.mono (fun b hb _ => ⟨Nat.le_trans HIX0.out.hi hb, fun e => by have := (HIX0.out.own.lt b e.symm).2; omega⟩) _ _ hlay)
        clear hlay hbX
        refine hK' _ _ ⟨HSX5.out, ?_⟩
        clear hK'
        refine wpAnyH_all (rs := [1, 4]) (by kernel_rfl) (by simp) ?_
        intro ii hii
        rw [List.mem_cons, List.mem_singleton] at hii
        rcases hii with hii | hii
        · subst hii
          refine wpOp_step (by rfl) ?_
          intro K' hK'
          have q5 : X5.cell? ⟨w.heap.size, 5, none⟩ = some (.slice oa k oc) := (six_facts HIX5.out.pb).1.2.2.2.2.2
          go_simp
          refine hK' _ _ ⟨HSX5.out, ?_⟩
          clear hK' q5
          refine wpAnyH_all (rs := [4]) (by kernel_rfl) (by simp) ?_
          intro ii hii
          rw [List.mem_singleton] at hii
          subst hii
          refine wpOp_step (by rfl) ?_
          intro K' hK'
          go_simp
          obtain ⟨X6, hX6⟩ : ∃ X6 : World, X6 = X5.alloc (.cells #[.string (ks k).op, .int .i64 (ks k).val, .string (ks k).nm, .int .i64 (ks k).pos, .int .i64 (ks k).apos, .slice no nn nc] 36) := ⟨_, rfl⟩
          rw [← hX6]
          have HIX6 : Hid (CloI w op nm nv p q ks k (.slice oa k oc) vs X6) := Lib.hid (by rw [hX6]; exact HIX5.out.next ((Below.refl _ _).alloc (Nat.le_refl _) _))
          have HSX6 : Hid (X6.heap[wr.heap.size]? = some (.cells #[.string (ks k).op, .int .i64 (ks k).val, .string (ks k).nm, .int .i64 (ks k).pos, .int .i64 (ks k).apos, .slice ka km kc] 36 (0, 0))) := Lib.hid (by rw [hX6]; exact alloc_keeps HSX5.out _)
          have HLX6 : Hid ((ks k).Lay X6 (fun b => w.heap.size + 2 ≤ b ∧ some b ≠ (Value.slice oa k oc).ownBlock) (.slice no nn nc)) := Lib.hid (by rw [hX6]; exact HLX5.out.kept (fun b _ hb => alloc_at_old _ _ b hb) _ _)
          have HNX6 : Hid (X6.heap[X5.heap.size]? = some (.cells #[.string (ks k).op, .int .i64 (ks k).val, .string (ks k).nm, .int .i64 (ks k).pos, .int .i64 (ks k).apos, .slice no nn nc] 36 (0, 0))) := Lib.hid (by rw [hX6]; exact heap_alloc_last X5 _)
          clear hX6
          refine hK' _ _ ⟨HSX6.out, ?_⟩
          clear hK'
          refine wpAnyH_all (rs := [5]) (by kernel_rfl) (by simp) ?_
          intro ii hii
          rw [List.mem_singleton] at hii
          subst hii
          refine wpOp_step (by rfl) ?_
          intro K' hK'
          refine step_append_own2 rfl (.tmp 16) (.tmp 19) 34 rfl (w.heap.size + 2) 36 i0 z0 6 80 Tryd.underlying34 hi hz0 hz1 hz2 hz3 (by decide) (.slice oa k oc) k _ rfl HIX6.out.own ⟨X5.heap.size, 0, none⟩ 1 1 ((ks k).cells (.slice no nn nc)) rfl rfl ?_ ?_ (by decide) (by unfold maxLen; omega) (by omega) HIX6.out.hi ?_
          · exact new_cells HNX6.out
          · intro u hu; simp only [Tr.cells, List.mem_cons, List.not_mem_nil, or_false] at hu; rcases hu with rfl | rfl | rfl | rfl | rfl | rfl <;> rfl
          intro v' X7 hown hg hv
          obtain ⟨va, vc, rfl⟩ := own_shape6 hown
          have HSX7 : Hid (X7.heap[wr.heap.size]? = some (.cells #[.string (ks k).op, .int .i64 (ks k).val, .string (ks k).nm, .int .i64 (ks k).pos, .int .i64 (ks k).apos, .slice ka km kc] 36 (0, 0))) := Lib.hid ((hg.block _ (lt_of_heap HSX6.out) (fun e => by have := HOW.out _ e.symm; omega)).trans HSX6.out)
          have HPX7 : Hid (X7.heap[w.heap.size]? = some (.cells #[.string op, .int .i64 nv, .string nm, .int .i64 p, .int .i64 q, (.slice oa k oc)] 36 (0, 0))) := Lib.hid ((hg.block _ (lt_of_heap HIX6.out.pb) (fun e => by have := (HIX6.out.own.lt _ e.symm).1; omega)).trans HIX6.out.pb)
          have HIX8 := Lib.hid (HIX6.out.succ HLX6.out hown hg hv)
          clear hown hg hv
          refine hK' _ _ ⟨HSX7.out, ?_⟩
          clear hK'
          refine wpAnyH_take (i := 6) (v := .pointer (some ⟨w.heap.size, 5, none⟩)) rfl (by kernel_rfl) (by kernel_rfl) (by kernel_rfl) (fun _ _ _ h => h) (Or.inl ⟨by kernel_rfl, ?_⟩) HSX7.out ?_
          · intro X hS; go_simp
          refine wpAnyH_all (rs := [7]) (by kernel_rfl) (by simp) ?_
          intro ii hii
          rw [List.mem_singleton] at hii
          subst hii
          refine wpOp_step (by rfl) ?_
          intro K' hK'
          obtain ⟨⟨_, _, _, _, _, q5⟩, ⟨_, _, _, _, _, f5⟩⟩ := six_facts HPX7.out
          go_simp
          refine hK' _ _ ⟨?_, ?_⟩
          · exact (Below.heap_setCell _ _ _ _ (by show wr.heap.size ≠ w.heap.size; omega)).trans HSX7.out
          clear hK' q5 f5
          refine wpAnyH_done (by kernel_rfl) ?_ _
          go_wp2_with fail
          go_roundg (n - (k + 1))
          case measure => have := HG.out; omega
          case rel => exact ⟨k + 1, _, _, rfl, by omega, by go_num, HIX8.out⟩
        · subst hii
          refine wpOp_step (by rfl) ?_
          intro K' hK'
          go_simp
          obtain ⟨X9, hX9⟩ : ∃ X9 : World, X9 = X5.alloc (.cells #[.string (ks k).op, .int .i64 (ks k).val, .string (ks k).nm, .int .i64 (ks k).pos, .int .i64 (ks k).apos, .slice no nn nc] 36) := ⟨_, rfl⟩
          rw [← hX9]
          have HIX9 : Hid (CloI w op nm nv p q ks k (.slice oa k oc) vs X9) := Lib.hid (by rw [hX9]; exact HIX5.out.next ((Below.refl _ _).alloc (Nat.le_refl _) _))
          have HSX9 : Hid (X9.heap[wr.heap.size]? = some (.cells #[.string (ks k).op, .int .i64 (ks k).val, .string (ks k).nm, .int .i64 (ks k).pos, .int .i64 (ks k).apos, .slice ka km kc] 36 (0, 0))) := Lib.hid (by rw [hX9]; exact alloc_keeps HSX5.out _)
          have HLX9 : Hid ((ks k).Lay X9 (fun b => w.heap.size + 2 ≤ b ∧ some b ≠ (Value.slice oa k oc).ownBlock) (.slice no nn nc)) := Lib.hid (by rw [hX9]; exact HLX5.out.kept (fun b _ hb => alloc_at_old _ _ b hb) _ _)
          have HNX9 : Hid (X9.heap[X5.heap.size]? = some (.cells #[.string (ks k).op, .int .i64 (ks k).val, .string (ks k).nm, .int .i64 (ks k).pos, .int .i64 (ks k).apos, .slice no nn nc] 36 (0, 0))) := Lib.hid (by rw [hX9]; exact heap_alloc_last X5 _)
          clear hX9
          refine hK' _ _ ⟨HSX9.out, ?_⟩
          clear hK'
          refine wpAnyH_all (rs := [1]) (by kernel_rfl) (by simp) ?_
          intro ii hii
          rw [List.mem_singleton] at hii
          subst hii
          refine wpOp_step (by rfl) ?_
          intro K' hK'
          have q5 : X9.cell? ⟨w.heap.size, 5, none⟩ = some (.slice oa k oc) := (six_facts HIX9.out.pb).1.2.2.2.2.2
          go_simp
          refine hK' _ _ ⟨HSX9.out, ?_⟩
          clear hK' q5
          refine wpAnyH_all (rs := [5]) (by kernel_rfl) (by simp) ?_
          intro ii hii
          rw [List.mem_singleton] at hii
          subst hii
          refine wpOp_step (by rfl) ?_
          intro K' hK'
          refine step_append_own2 rfl (.tmp 16) (.tmp 19) 34 rfl (w.heap.size + 2) 36 i0 z0 6 80 Tryd.underlying34 hi hz0 hz1 hz2 hz3 (by decide) (.slice oa k oc) k _ rfl HIX9.out.own ⟨X5.heap.size, 0, none⟩ 1 1 ((ks k).cells (.slice no nn nc)) rfl rfl ?_ ?_ (by decide) (by unfold maxLen; omega) (by omega) HIX9.out.hi ?_
          · exact new_cells HNX9.out
          · intro u hu; simp only [Tr.cells, List.mem_cons, List.not_mem_nil, or_false] at hu; rcases hu with rfl | rfl | rfl | rfl | rfl | rfl <;> rfl
          intro v' X10 hown hg hv
          obtain ⟨va, vc, rfl⟩ := own_shape6 hown
          have HSX10 : Hid (X10.heap[wr.heap.size]? = some (.cells #[.string (ks k).op, .int .i64 (ks k).val, .string (ks k).nm, .int .i64 (ks k).pos, .int .i64 (ks k).apos, .slice ka km kc] 36 (0, 0))) := Lib.hid ((hg.block _ (lt_of_heap HSX9.out) (fun e => by have := HOW.out _ e.symm; omega)).trans HSX9.out)
          have HPX10 : Hid (X10.heap[w.heap.size]? = some (.cells #[.string op, .int .i64 nv, .string nm, .int .i64 p, .int .i64 q, (.slice oa k oc)] 36 (0, 0))) := Lib.hid ((hg.block _ (lt_of_heap HIX9.out.pb) (fun e => by have := (HIX9.out.own.lt _ e.symm).1; omega)).trans HIX9.out.pb)
          have HIX11 := Lib.hid (HIX9.out.succ HLX9.out hown hg hv)
          clear hown hg hv
          refine hK' _ _ ⟨HSX10.out, ?_⟩
          clear hK'
          refine wpAnyH_take (i := 6) (v := .pointer (some ⟨w.heap.size, 5, none⟩)) rfl (by kernel_rfl) (by kernel_rfl) (by kernel_rfl) (fun _ _ _ h => h) (Or.inl ⟨by kernel_rfl, ?_⟩) HSX10.out ?_
          · intro X hS; go_simp
          refine wpAnyH_all (rs := [7]) (by kernel_rfl) (by simp) ?_
          intro ii hii
          rw [List.mem_singleton] at hii
          subst hii
          refine wpOp_step (by rfl) ?_
          intro K' hK'
          obtain ⟨⟨_, _, _, _, _, q5⟩, ⟨_, _, _, _, _, f5⟩⟩ := six_facts HPX10.out
          go_simp
          refine hK' _ _ ⟨?_, ?_⟩
          · exact (Below.heap_setCell _ _ _ _ (by show wr.heap.size ≠ w.heap.size; omega)).trans HSX10.out
          clear hK' q5 f5
          refine wpAnyH_done (by kernel_rfl) ?_ _
          go_wp2_with fail
          go_roundg (n - (k + 1))
          case measure => have := HG.out; omega
          case rel => exact ⟨k + 1, _, _, rfl, by omega, by go_num, HIX11.out⟩
    · obtain rfl : k = n := by omega
      obtain ⟨⟨c0, c1, c2, c3, c4, c5⟩, _⟩ := six_facts HIr.out.pb
      go_wp2_with (refine wpList_store_ar rfl _ _ rfl rfl (w.heap.size + 1) op nv nm p q (.slice oa k oc) rfl rfl rfl _ HIr.out.rb rfl ?_)
      have hkeep : ∀ b, w.heap.size + 2 ≤ b → ∀ c, (wr.setRow (w.heap.size + 1) c).heap[b]? = wr.heap[b]? := fun b hb c => by
        show (wr.heap.modify (w.heap.size + 1) _)[b]? = _
        rw [Array.getElem?_modify, if_neg (by omega)]
      refine bodyPost_ret (results_ar rfl _ _ (w.heap.size + 1) _ rfl (setRow_self HIr.out.rb _) rfl) rfl ⟨⟨_, vs, rfl, ?_, fun i hi => ?_⟩, below_setRow HIr.out.bel (by omega) _⟩
      · exact ((rowOf_own HIr.out.own hn).kept (fun b hb _ => hkeep b hb _)).mono (fun b hb _ => by omega)
      · exact Tr.Lay.mono (fun b hb _ => by omega) _ _ ((HIr.out.lay i hi).kept (fun b hb _ => hkeep b hb.1 _) _ _)
end Go.Proofs.YtlmoeldillpamaaDoor
