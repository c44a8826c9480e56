/- KNs: several texts in one (kmerge.py). -/
import Derived.Test.YtcceiblmdjbhjaaGreatDoorKNt
import Derived.Deep.OwnRows
import Derived.OwnWalk
import Derived.BigRegion
import Derived.StillTailTactics
import Derived.Test.YtcceiblmdjbhjaaGreatDoorKLi
import Derived.Test.YtcceiblmdjbhjaaGreatDoorKRs
import Derived.Test.YtcceiblmdjbhjaaGreatDoorKSet
import Derived.Deep.LoopGhost
/- Sets of states in memory: has, NewSet, PlaceOf, Accepts of a set. -/
namespace Go.Proofs.YtcceiblmdjbhjaaGreatDoor
open Go.RowKit

theorem int_row9 : (Tryz.prog.info? 3).map (fun i => (i.zero, i.size, i.bytes)) = some (some (.int .i64 0), 1, 8) := by kernel_rfl
def intV (x : Nat) : Value := .int .i64 (x : Nat)
/-- A set of the n states of the graph gb: its block sb, its marks' block ib, its list's row v. -/
structure SetAt (B gb sb ib n : Nat) (L : List Nat) (now : Nat) (v : Value) (w : World) : Prop where
  blk : w.heap[sb]? = some (.cells #[.pointer (some ⟨gb, 0, none⟩), v, .slice (some ⟨ib, 0, none⟩) n n, intV now] 134 (0, 0))
  row : w.ownsRow B 3 1 v L.length (L.map intV)
  ne : v.ownBlock ≠ some ib
  mks : ∃ cur : Array Value, w.heap[ib]? = some (.cells cur 3 (0, 0)) ∧ cur.size = n ∧ ∀ x, x < n → ∃ q : Nat, cur[x]? = some (intV q) ∧ q ≤ now ∧ (q = now ↔ L.contains x = true)
  lo : B ≤ sb ∧ B ≤ ib
  un : L.length + unm n L ≤ n
  now1 : 1 ≤ now
/-- What operations on a set leave alone. -/
structure ChS (B sb ib : Nat) (v v' : Value) (w w' : World) : Prop where
  bel : Below B w w'
  oth : ∀ i, i < w.heap.size → i ≠ sb → i ≠ ib → v.ownBlock ≠ some i → w'.heap[i]? = w.heap[i]?
  nb : v'.ownBlock = v.ownBlock ∨ ∃ b, v'.ownBlock = some b ∧ w.heap.size ≤ b
theorem ChS.refl (B sb ib : Nat) (v : Value) (w : World) : ChS B sb ib v v w w := ⟨Below.refl _ _, fun _ _ _ _ _ => rfl, Or.inl rfl⟩
theorem ChS.trans {B sb ib : Nat} {v v' v'' : Value} {a b c : World} (h : ChS B sb ib v v' a b) (k : ChS B sb ib v' v'' b c) : ChS B sb ib v v'' a c := by
  refine ⟨h.bel.trans k.bel, fun i hi h1 h2 h3 => ?_, ?_⟩
  · have h4 : v'.ownBlock ≠ some i := by
      rcases h.nb with e | ⟨q, e, hq⟩
      · rw [e]; exact h3
      · rw [e]; intro e'; have := Option.some.inj e'; omega
    exact (k.oth i (Nat.lt_of_lt_of_le hi h.bel.size) h1 h2 h4).trans (h.oth i hi h1 h2 h3)
  · rcases k.nb with e | ⟨q, e, hq⟩
    · rw [e]; exact h.nb
    · exact Or.inr ⟨q, e, Nat.le_trans h.bel.size hq⟩
theorem ChS.below {B sb ib : Nat} {v : Value} {w w' : World} (h : Below w.heap.size w w') (hB : B ≤ w.heap.size) : ChS B sb ib v v w w' := ⟨h.mono hB, fun i hi _ _ _ => h.block i hi, Or.inl rfl⟩
theorem SetAt.below {B gb sb ib n now : Nat} {L : List Nat} {v : Value} {w w' : World} (h : SetAt B gb sb ib n L now v w) (hb : Below w.heap.size w w') : SetAt B gb sb ib n L now v w' := by
  obtain ⟨cur, h1, h2, h3⟩ := h.mks
  exact ⟨blk_below h.blk hb, own_drop h.row hb, h.ne, ⟨cur, blk_below h1 hb, h2, h3⟩, h.lo, h.un, h.now1⟩
/-- Blocks of other types. -/
theorem ChS.blk {B sb ib gb n now : Nat} {L : List Nat} {v v' : Value} {w w' : World} (h : ChS B sb ib v v' w w') (hs : SetAt B gb sb ib n L now v w) {i : Nat} {cs : Array Value} {T : TypeId} {z : Nat × Nat} (hb : w.heap[i]? = some (.cells cs T z)) (h1 : T ≠ 134) (h2 : T ≠ 3) : w'.heap[i]? = some (.cells cs T z) := by
  obtain ⟨cur, hm, _⟩ := hs.mks
  refine (h.oth i (lt_blkB hb) (fun e => ?_) (fun e => ?_) (own_neK hs.row hb h2)).trans hb
  · subst e; rw [hs.blk] at hb; simp only [Option.some.injEq, Obj.cells.injEq] at hb; exact h1 hb.2.1.symm
  · subst e; rw [hm] at hb; simp only [Option.some.injEq, Obj.cells.injEq] at hb; exact h2 hb.2.1.symm
theorem GrAt.chS {B B' sb ib gb n now st : Nat} {g : List St} {L : List Nat} {v v' : Value} {w w' : World} (hg : GrAt B' gb g st w) (h : ChS B sb ib v v' w w') (hs : SetAt B gb sb ib n L now v w) : GrAt B' gb g st w' := by
  obtain ⟨h0, u, h1, h2⟩ := hg
  exact ⟨h0, u, h.blk hs h1 (by decide) (by decide), own_same h2 fun b _ cs hc => (h.blk hs hc (by decide) (by decide)).trans hc.symm⟩
theorem cells4v {X : World} {b : Nat} {c0 c1 c2 c3 : Value} {T : TypeId} (h : X.heap[b]? = some (.cells #[c0, c1, c2, c3] T (0, 0))) :
    X.cell? ⟨b, 0, none⟩ = some c0 ∧ X.cell? ⟨b, 1, none⟩ = some c1 ∧ X.cell? ⟨b, 2, none⟩ = some c2 ∧ X.cell? ⟨b, 3, none⟩ = some c3 ∧ b < X.heap.size :=
  ⟨(Lib.cell_of_heap h 0).trans rfl, (Lib.cell_of_heap h 1).trans rfl, (Lib.cell_of_heap h 2).trans rfl, (Lib.cell_of_heap h 3).trans rfl, lt_blkB h⟩

set_option maxRecDepth 100000 in
set_option maxHeartbeats 4000000 in
theorem shas_any (B gb sb ib n : Nat) (L : List Nat) (now : Nat) (v : Value) (x : Nat) (w : World) (h : SetAt B gb sb ib n L now v w) (hx : x < n) :
    Calls Tryz.prog 79 #[.pointer (some ⟨sb, 0, none⟩), .int .i64 (x : Nat)] w fun r w' => r = .returned (.bool (L.contains x)) ∧ Below w.heap.size w w' := by
  obtain ⟨cur, hm, hcs, hq⟩ := h.mks
  obtain ⟨q, hqx, hqn, hqi⟩ := hq x hx
  obtain ⟨c0, c1, c2, c3, cz⟩ := cells4v h.blk
  have cm : w.cell? ⟨ib, x, none⟩ = some (.int .i64 (q : Nat)) := (Lib.cell_of_heap hm x).trans hqx
  have hmz := lt_blkB hm
  have hxi : (x : Int) < (n : Int) := by omega
  have hx0 : (0 : Int) ≤ (x : Int) := by omega
  have HE : Hid (((q : Int) == (now : Int)) = L.contains x) := Lib.hid (by
    rw [Bool.eq_iff_iff, ← hqi]
    simp
    omega)
  unfold intV at c3
  obtain ⟨va, vc, rfl⟩ := own_shapeR h.row
  clear h hm hcs hq hqx hqn hqi
  go_enter Tryz.func79, Tryz.ntmps79
  go_wp2
  go_region
  all_goals
    go_wp2
    go_ret
    exact ⟨by rw [← HE.out]; rfl, (Below.refl _ _).drew⟩
set_option maxHeartbeats 4000000 in
theorem place_of (a n : Nat) (w : World) :
    Calls Tryz.prog 47 #[.int .i64 (a : Nat), .int .i64 (n : Nat)] w fun r w' => r = .returned (.agg #[.bool (decide (a = 0)), .bool (decide (a = n))]) ∧ Below w.heap.size w w' := by
  have h0 : ((a : Int) == 0) = decide (a = 0) := by rw [Bool.eq_iff_iff]; simp
  have h1 : ((a : Int) == (n : Int)) = decide (a = n) := by rw [Bool.eq_iff_iff]; simp; omega
  have HB : Hid (∀ o : Obj, Below w.heap.size w (w.alloc o)) := Lib.hid (fun o => (Below.refl _ _).alloc (Nat.le_refl _) _)
  go_enter Tryz.func47, Tryz.ntmps47
  go_wp2
  refine bodyPost_ret (by simp [results, Tryz.results47, go_sem]) rfl ⟨rfl, HB.out _⟩
set_option maxRecDepth 100000 in
set_option maxHeartbeats 4000000 in
theorem newSet_any (B gb st : Nat) (g : List St) (w : World) (h : GrAt B gb g st w) (hlen : g.length ≤ 1000000) :
    Calls Tryz.prog 45 #[.pointer (some ⟨gb, 0, none⟩)] w fun r w' => r = .returned (.pointer (some ⟨w.heap.size + 1, 0, none⟩)) ∧ SetAt w.heap.size gb (w.heap.size + 1) w.heap.size g.length [] 1 nilS w' ∧ Below w.heap.size w w' := by
  obtain ⟨i1, ki, kz0, kz1, kz2⟩ := info_parts int_row9
  have HL := Lib.hid (glen_any B gb st g w h)
  obtain ⟨n, hn⟩ : ∃ n, n = g.length := ⟨_, rfl⟩
  rw [← hn] at HL hlen ⊢
  have HS : Hid (SetAt w.heap.size gb (w.heap.size + 1) w.heap.size n [] 1 nilS ((w.alloc (.cells (madeCells #[.int .i64 0] n) 3)).alloc (.cells #[.pointer (some ⟨gb, 0, none⟩), .slice none 0 0, .slice (some ⟨w.heap.size, 0, none⟩) n n, .int .i64 1] 134))) := Lib.hid
    { blk := by have := alloc_last (w.alloc (.cells (madeCells #[.int .i64 0] n) 3)) (.cells #[.pointer (some ⟨gb, 0, none⟩), .slice none 0 0, .slice (some ⟨w.heap.size, 0, none⟩) n n, .int .i64 1] 134); rw [World.size_alloc] at this; exact this
      row := World.ownsRow_nil _ _ _ _
      ne := fun e => by cases e
      mks := ⟨_, blk_alloc (alloc_last w _) _, size_madeCells _ _, fun x hx => ⟨0, by
        rw [← Array.getElem?_toList, toList_madeCells_one, List.getElem?_replicate, if_pos hx]
        rfl, by decide, by simp⟩⟩
      lo := ⟨by omega, Nat.le_refl _⟩
      un := by rw [unm_nil]; simp
      now1 := Nat.le_refl _ }
  have HB : Hid (Below w.heap.size w ((w.alloc (.cells (madeCells #[.int .i64 0] n) 3)).alloc (.cells #[.pointer (some ⟨gb, 0, none⟩), .slice none 0 0, .slice (some ⟨w.heap.size, 0, none⟩) n n, .int .i64 1] 134))) := Lib.hid (((Below.refl _ _).alloc (Nat.le_refl _) _).alloc (by simp) _)
  clear h hn
  go_enter Tryz.func45, Tryz.ntmps45
  go_wp2_with fail
  refine HL.out.mono ?_
  rintro r w1 ⟨rfl, rfl⟩
  go_wp2_with (first | (at_make; refine wpList_make_row _ rfl _ _ 132 rfl 3 i1 (.int .i64 0) Tryz.underlying132 ki kz0 kz1 rfl _ _ n rfl rfl (by rw [kz2]; omega) (by omega) ?_) | fail)
  go_ret
  exact ⟨rfl, HS.out, HB.out⟩
end Go.Proofs.YtcceiblmdjbhjaaGreatDoor
/- add: a state and all that it leads to without a byte (gen_nfadd.py). -/
namespace Go.Proofs.YtcceiblmdjbhjaaGreatDoor
open Go.RowKit

def zero7 : Array Value := #[.int .i64 0, .int .u64 0, .int .u64 0, .int .u64 0, .int .u64 0, .int .i64 0, .int .i64 0]
theorem app_int {w : World} {ops : Array Oper} {rest : List Oper} {o : Oper} {a : Act} {Q : Exit → Act → World → Prop} (hgd : o.guard = none) (s x : Operand)
    (ho : o.op = .call { callee := .builtin .append, args := #[s, x], argTypes := #[132, 132] })
    (B : Nat) (v : Value) (n : Nat) (xs : List Value) (hs : a.eval s = v) (hown : w.ownsRow B 3 1 v n xs) (c : Int) (gb : Nat) (hx : a.eval x = .slice (some ⟨gb, 0, none⟩) 1 1)
    (hgb : w.heap[gb]? = some (.cells #[.int .i64 c] 3 (0, 0))) (hlen : n ≤ 1000000) (hB : B ≤ w.heap.size)
    (h : ∀ b' cap' w', w'.ownsRow B 3 1 (.slice (some ⟨b', 0, none⟩) (n + 1) cap') (n + 1) (xs ++ [.int .i64 c]) → w.grownBy w' v.ownBlock → (v.ownBlock = some b' ∨ b' = w.heap.size) → wpList Tryz.prog ops Q rest (a.put o.dst (.slice (some ⟨b', 0, none⟩) (n + 1) cap')) w') : wpList Tryz.prog ops Q (o :: rest) a w := by
  obtain ⟨i0, hi, hz0, hz1, hz2⟩ := info_parts int_row9
  refine wpList_append_own_at w hgd s x _ ho B 3 i0 (.int .i64 0) 1 8 Tryz.underlying132 hi hz0 hz1 hz2 rfl (by decide) v n xs hs hown ⟨gb, 0, none⟩ 1 1 [.int .i64 c] hx rfl ?_ (fun u hu => by rw [List.mem_singleton.1 hu]; rfl) (by unfold maxLen; omega) (by omega) hB ?_
  · intro j u hj
    rw [WideShapes.add_plain, Nat.zero_add, Lib.cell_of_heap hgb]
    simpa using hj
  · intro v' w' ho' hg' _ hv'
    obtain ⟨_, ⟨rfl, hz⟩ | ⟨b', cap', cur, rfl, h1⟩⟩ := id ho'
    · omega
    · refine h b' cap' w' ho' hg' ?_
      rcases hv' with e | e
      · exact Or.inl e.symm
      · exact Or.inr (Option.some.inj e)
/-- A state of the graph, in memory. -/
theorem GrAt.at {B gb st : Nat} {g : List St} {X : World} (h : GrAt B gb g st X) {k : Nat} {s : St} (hk : g[k]? = some s) :
    ∃ g0 cap cur, X.cell? ⟨gb, 0, none⟩ = some (.slice (some ⟨g0, 0, none⟩) g.length cap) ∧ gb < X.heap.size ∧ X.heap[g0]? = some (.cells cur 122 (0, 0)) ∧ ∀ i u, s.cells[i]? = some u → cur[k * 7 + i]? = some u := by
  obtain ⟨h0, v, h1, hl, ⟨rfl, hz⟩ | ⟨g0, cap, cur, rfl, hB, hg, hnc, hcm, hcs, htk⟩⟩ := h
  · rw [List.length_eq_zero_iff.1 hz] at hk
    simp at hk
  have hkl : k < g.length := (List.getElem?_eq_some_iff.1 hk).1
  refine ⟨g0, cap, cur, (Lib.cell_of_heap h1 0).trans rfl, lt_blkB h1, hg, fun i u hu => ?_⟩
  have hi : i < 7 := by have := (List.getElem?_eq_some_iff.1 hu).1; rwa [St.cells_len] at this
  have h2 := rowS_at g k s hk i hi
  rw [hu, ← htk, List.getElem?_take, if_pos (by omega)] at h2
  simpa using h2
theorem contains_snoc (L : List Nat) (x y : Nat) : (L ++ [x]).contains y = (L.contains y || decide (y = x)) := by
  rw [Bool.eq_iff_iff]
  simp
/-- The mark is set, the row is longer. -/
theorem SetAt.put {B gb sb ib n now : Nat} {L : List Nat} {v : Value} {w : World} (h : SetAt B gb sb ib n L now v w) {x : Nat} (hx : x < n) (hc : L.contains x = false) {b' cap' : Nat} {w1 : World} {wm : World} (hm : ChS B sb ib v v (w.setCell ⟨ib, x, none⟩ (intV now)) wm)
    (hmk : wm.heap[ib]? = (w.setCell ⟨ib, x, none⟩ (intV now)).heap[ib]?) (hsb : wm.heap[sb]? = w.heap[sb]?)
    (ho : w1.ownsRow B 3 1 (.slice (some ⟨b', 0, none⟩) (L.length + 1) cap') (L.length + 1) (L.map intV ++ [intV x])) (hg : wm.grownBy w1 v.ownBlock) (hb : v.ownBlock = some b' ∨ b' = wm.heap.size) :
    SetAt B gb sb ib n (L ++ [x]) now (.slice (some ⟨b', 0, none⟩) (L.length + 1) cap') (w1.setCell ⟨sb, 1, none⟩ (.slice (some ⟨b', 0, none⟩) (L.length + 1) cap')) ∧
      ChS B sb ib v (.slice (some ⟨b', 0, none⟩) (L.length + 1) cap') w (w1.setCell ⟨sb, 1, none⟩ (.slice (some ⟨b', 0, none⟩) (L.length + 1) cap')) := by
  obtain ⟨cur, h1, h2, h3⟩ := h.mks
  have hsi : sb ≠ ib := fun e => by have := h.blk; rw [e, h1] at this; simp at this
  have hlt := lt_blkB h.blk
  have hli := lt_blkB h1
  have hwz : (w.setCell ⟨ib, x, none⟩ (intV now)).heap.size = w.heap.size := by simp
  have hwm := hm.bel.size
  rw [hwz] at hwm
  have hvs : v.ownBlock ≠ some sb := own_neK h.row h.blk (by decide)
  have hbi : b' ≠ ib := by
    rcases hb with e | e
    · intro e2; rw [e2] at e; exact h.ne e
    · omega
  have hbs : b' ≠ sb := by
    rcases hb with e | e
    · intro e2; rw [e2] at e; exact hvs e
    · omega
  have h1m : wm.heap[ib]? = some (.cells (cur.setIfInBounds x (intV now)) 3 (0, 0)) := by
    rw [hmk]
    simp [World.setCell, Array.getElem?_modify, h1]
  have h1w : w1.heap[ib]? = some (.cells (cur.setIfInBounds x (intV now)) 3 (0, 0)) := (hg.block ib (by omega) (fun e => h.ne e.symm)).trans h1m
  have hsw : w1.heap[sb]? = w.heap[sb]? := (hg.block sb (by omega) (fun e => hvs e.symm)).trans hsb
  have hb1 : Below B w wm := ((Below.refl _ _).setCell (p := ⟨ib, x, none⟩) h.lo.2 _).trans hm.bel
  have hBw : B ≤ wm.heap.size := Nat.le_trans (Nat.le_trans h.lo.1 (Nat.le_of_lt hlt)) hwm
  have hb2 : Below B w w1 := hb1.grown hg hBw (fun k hk => (h.row.lt k hk).1)
  refine ⟨⟨?_, ?_, ?_, ⟨_, (Below.heap_setCell _ _ _ _ (fun e => hsi e.symm)).trans h1w, by simpa using h2, fun y hy => ?_⟩, h.lo, ?_, h.now1⟩, hb2.setCell (p := ⟨sb, 1, none⟩) h.lo.1 _, fun i hi h4 h5 h6 => ?_, ?_⟩
  · have hs := hsw.trans h.blk
    simp [World.setCell, Array.getElem?_modify, hs]
  · rw [List.length_append, List.length_singleton, List.map_append]
    have hs := hsw.trans h.blk
    exact own_set ho hs (by decide) _ _
  · intro e; exact hbi (Option.some.inj e)
  · obtain ⟨q, hq1, hq2, hq3⟩ := h3 y hy
    by_cases hyx : y = x
    · subst hyx
      exact ⟨now, by rw [Array.getElem?_setIfInBounds_self_of_lt (by omega)], Nat.le_refl _, by rw [contains_snoc]; simp⟩
    · exact ⟨q, by rw [Array.getElem?_setIfInBounds_ne (fun e => hyx e.symm)]; exact hq1, hq2, by rw [hq3, contains_snoc]; simp [hyx]⟩
  · have := unm_add n L x hx hc
    have := h.un
    rw [List.length_append, List.length_singleton]
    omega
  · rw [Below.heap_setCell _ _ _ _ (fun e => h4 e), hg.block i (by omega) (fun e => h6 e.symm), hm.oth i (by rw [hwz]; exact hi) h4 h5 h6, Below.heap_setCell _ _ _ _ (fun e => h5 e)]
  · rcases hb with e | e
    · exact Or.inl e.symm
    · exact Or.inr ⟨b', rfl, by omega⟩
/-- Putting in, by so many states that are not in yet. -/
def AddC (k : Nat) : Prop := ∀ (B B' gb st sb ib n now : Nat) (g : List St) (L : List Nat) (v : Value) (x : Nat) (pb pe : Bool) (w : World), n = g.length → ClG g → n ≤ 1000000 → GrAt B' gb g st w → SetAt B gb sb ib n L now v w → B ≤ w.heap.size → unm n L < k → x < n →
  Calls Tryz.prog 77 #[.pointer (some ⟨sb, 0, none⟩), .int .i64 (x : Nat), .agg #[.bool pb, .bool pe]] w fun r w' => r = .returned (.tuple #[]) ∧ ∃ v', SetAt B gb sb ib n (addF g pb pe k x L) now v' w' ∧ ChS B sb ib v v' w w'
end Go.Proofs.YtcceiblmdjbhjaaGreatDoor
/- add: the walk (gen_nfadd.py). -/
namespace Go.Proofs.YtcceiblmdjbhjaaGreatDoor
open Go.RowKit

theorem addF_fork {G : List St} {pb pe : Bool} {k x y z : Nat} {L : List Nat} (hc : L.contains x = false) (e : G[x]? = some (.fork y z)) : addF G pb pe (k + 1) x L = addF G pb pe k z (addF G pb pe k y (L ++ [x])) := by
  conv => lhs; unfold addF
  rw [if_neg (by rw [hc]; decide), e]
theorem addF_beg {G : List St} {pb pe : Bool} {k x y : Nat} {L : List Nat} (hc : L.contains x = false) (e : G[x]? = some (.beg y)) : addF G pb pe (k + 1) x L = if pb then addF G pb pe k y (L ++ [x]) else L ++ [x] := by
  conv => lhs; unfold addF
  rw [if_neg (by rw [hc]; decide), e]
theorem addF_fin {G : List St} {pb pe : Bool} {k x y : Nat} {L : List Nat} (hc : L.contains x = false) (e : G[x]? = some (.fin y)) : addF G pb pe (k + 1) x L = if pe then addF G pb pe k y (L ++ [x]) else L ++ [x] := by
  conv => lhs; unfold addF
  rw [if_neg (by rw [hc]; decide), e]
theorem addF_eat {G : List St} {pb pe : Bool} {k x y : Nat} {p : Nat → Bool} {L : List Nat} (hc : L.contains x = false) (e : G[x]? = some (.eat p y)) : addF G pb pe (k + 1) x L = L ++ [x] := by
  conv => lhs; unfold addF
  rw [if_neg (by rw [hc]; decide), e]
theorem addF_acc {G : List St} {pb pe : Bool} {k x : Nat} {L : List Nat} (hc : L.contains x = false) (e : G[x]? = some .acc) : addF G pb pe (k + 1) x L = L ++ [x] := by
  conv => lhs; unfold addF
  rw [if_neg (by rw [hc]; decide), e]

set_option maxRecDepth 100000 in
set_option maxHeartbeats 16000000 in
theorem add_step (k : Nat) (ih : AddC k) : AddC (k + 1) := by
  intro B B' gb st sb ib n now g L v x pb pe w hn hcl hn6 hg hS hB hu hx
  obtain ⟨W, hW⟩ : ∃ W, W = w.alloc (.cells #[.bool pb, .bool pe] 87) := ⟨_, rfl⟩
  have hb : Below w.heap.size w W := by rw [hW]; exact (Below.refl _ _).alloc (Nat.le_refl _) _
  have hp0 : W.heap[w.heap.size]? = some (.cells #[.bool pb, .bool pe] 87 (0, 0)) := by rw [hW]; exact alloc_last w _
  have HH := Lib.hid (shas_any B gb sb ib n L now v x W (hS.below hb) hx)
  have HSW := Lib.hid (hS.below hb)
  have HGW := Lib.hid (hg.below hb)
  have HCW : Hid (ChS B sb ib v v w W) := Lib.hid (ChS.below hb hB)
  have HP0 := Lib.hid hp0
  have HIH := Lib.hid ih
  have HCL := Lib.hid hcl
  have HN := Lib.hid hn
  have HWE := Lib.hid hW
  have hBW : B ≤ W.heap.size := Nat.le_trans hB hb.size
  clear hW hb hp0 hg hS ih hcl hn
  go_enter Tryz.func77, Tryz.ntmps77
  go_upto_region 1 with fail
  rw [← HWE.out]
  go_wp2_with fail
  refine HH.out.mono ?_
  rintro r W1 ⟨rfl, hb1⟩
  have HS1 := Lib.hid (HSW.out.below hb1)
  have HG1 := Lib.hid (HGW.out.below hb1)
  have HC1 : Hid (ChS B sb ib v v w W1) := Lib.hid (HCW.out.trans (ChS.below hb1 hBW))
  have HP1 := Lib.hid (blk_below HP0.out hb1)
  have hB1 : B ≤ W1.heap.size := Nat.le_trans hBW hb1.size
  clear HH HSW HGW HCW HP0 HWE hb1 hBW
  by_cases hc : L.contains x = true
  · have HE : Hid (addF g pb pe (k + 1) x L = L) := Lib.hid (by unfold addF; rw [if_pos hc])
    rw [hc]
    go_wp2
    refine bodyPost_ret (results_none rfl _ _ _) rfl ?_
    rw [HE.out]
    exact ⟨rfl, v, HS1.out, HC1.out⟩
  have hc' : L.contains x = false := by simpa using hc
  rw [hc']
  obtain ⟨va, vc, rfl⟩ := own_shapeR HS1.out.row
  obtain ⟨cur, hm, hcs, _⟩ := HS1.out.mks
  have HMB := Lib.hid hm
  have hmz := lt_blkB hm
  have HSB := Lib.hid HS1.out.blk
  have hsz := lt_blkB HS1.out.blk
  have hsi : sb ≠ ib := fun e => by have := HS1.out.blk; rw [e, hm] at this; simp at this
  have hxi : (x : Int) < (n : Int) := by omega
  have hx0 : (0 : Int) ≤ (x : Int) := by omega
  have hxc : x < cur.size := by omega
  have HCT := Lib.hid hc'
  clear hc hc' hm hcs
  go_upto_region 2 with fail
  refine Reg.wp_region_sto (fun L' u X => X = if L' 10 = true then W1.drew.setCell ⟨ib, x, none⟩ (intV now) else W1.drew) (fun j => ([some (.pointer (some ⟨sb, 0, none⟩)), some (.pointer (some ⟨sb, 0, none⟩)), some (.pointer (some ⟨sb, 2, none⟩)), some (.slice (some ⟨ib, 0, none⟩) n n), some (.int .i64 (x : Nat)), some (.pointer (some ⟨sb, 0, none⟩)), some (.pointer (some ⟨sb, 0, none⟩)), some (.pointer (some ⟨sb, 3, none⟩)), some (.int .i64 (now : Nat)), some (.pointer (some ⟨ib, x, none⟩)), none] : List (Option Value)).getD j none) (by kernel_rfl) (by kernel_rfl) (by kernel_rfl) (by kernel_rfl) ?rs0 ?rsE ?rsZ
  case rs0 => exact (if_neg (by decide)).symm
  case rsE =>
    refine Reg.EachG.plain rfl (fun L' u T X hL hz hS hk K hK => ?_) ?_
    · skip
      have g0 : T[0]? = some (.pointer (some ⟨sb, 0, none⟩)) := hk.old 0 (by kernel_rfl) rfl
      have hK := hK _ X (by rw [Reg.upd_ne _ _ (by decide)]; exact hS) (fun _ hx => Option.some.inj hx)
      clear hk hz hL hS
      go_simp
      exact hK
    refine Reg.EachG.plain rfl (fun L' u T X hL hz hS hk K hK => ?_) ?_
    · skip
      have g10 : T[10]? = some (.pointer (some ⟨sb, 0, none⟩)) := hk.val 0 10 (by kernel_rfl) (by kernel_rfl) rfl
      have hS0 := hS
      have hd : L' 10 = false := hz 10 (by kernel_rfl)
      rw [hd, if_neg (by decide)] at hS0
      have hK := hK _ X (by rw [Reg.upd_ne _ _ (by decide)]; exact hS) (fun _ hx => Option.some.inj hx)
      subst hS0
      have hbk : W1.drew.heap[sb]? = some (.cells #[.pointer (some ⟨gb, 0, none⟩), .slice va L.length vc, .slice (some ⟨ib, 0, none⟩) n n, intV now] 134 (0, 0)) := HSB.out
      obtain ⟨c0, c1, c2, c3, cz⟩ := cells4v hbk
      unfold intV at c3
      clear hk hz hL hd hS hbk
      go_simp
      exact hK
    refine Reg.EachG.plain rfl (fun L' u T X hL hz hS hk K hK => ?_) ?_
    · skip
      have g11 : T[11]? = some (.pointer (some ⟨sb, 0, none⟩)) := hk.val 1 11 (by kernel_rfl) (by kernel_rfl) rfl
      have hS0 := hS
      have hd : L' 10 = false := hz 10 (by kernel_rfl)
      rw [hd, if_neg (by decide)] at hS0
      have hK := hK _ X (by rw [Reg.upd_ne _ _ (by decide)]; exact hS) (fun _ hx => Option.some.inj hx)
      subst hS0
      have hbk : W1.drew.heap[sb]? = some (.cells #[.pointer (some ⟨gb, 0, none⟩), .slice va L.length vc, .slice (some ⟨ib, 0, none⟩) n n, intV now] 134 (0, 0)) := HSB.out
      obtain ⟨c0, c1, c2, c3, cz⟩ := cells4v hbk
      unfold intV at c3
      clear hk hz hL hd hS hbk
      go_simp
      exact hK
    refine Reg.EachG.plain rfl (fun L' u T X hL hz hS hk K hK => ?_) ?_
    · skip
      have g12 : T[12]? = some (.pointer (some ⟨sb, 2, none⟩)) := hk.val 2 12 (by kernel_rfl) (by kernel_rfl) rfl
      have hS0 := hS
      have hd : L' 10 = false := hz 10 (by kernel_rfl)
      rw [hd, if_neg (by decide)] at hS0
      have hK := hK _ X (by rw [Reg.upd_ne _ _ (by decide)]; exact hS) (fun _ hx => Option.some.inj hx)
      subst hS0
      have hbk : W1.drew.heap[sb]? = some (.cells #[.pointer (some ⟨gb, 0, none⟩), .slice va L.length vc, .slice (some ⟨ib, 0, none⟩) n n, intV now] 134 (0, 0)) := HSB.out
      obtain ⟨c0, c1, c2, c3, cz⟩ := cells4v hbk
      unfold intV at c3
      clear hk hz hL hd hS hbk
      go_simp
      exact hK
    refine Reg.EachG.plain rfl (fun L' u T X hL hz hS hk K hK => ?_) ?_
    · skip
      have g1 : T[1]? = some (.int .i64 (x : Nat)) := hk.old 1 (by kernel_rfl) rfl
      have hK := hK _ X (by rw [Reg.upd_ne _ _ (by decide)]; exact hS) (fun _ hx => Option.some.inj hx)
      clear hk hz hL hS
      go_simp
      exact hK
    refine Reg.EachG.plain rfl (fun L' u T X hL hz hS hk K hK => ?_) ?_
    · skip
      have g0 : T[0]? = some (.pointer (some ⟨sb, 0, none⟩)) := hk.old 0 (by kernel_rfl) rfl
      have hK := hK _ X (by rw [Reg.upd_ne _ _ (by decide)]; exact hS) (fun _ hx => Option.some.inj hx)
      clear hk hz hL hS
      go_simp
      exact hK
    refine Reg.EachG.plain rfl (fun L' u T X hL hz hS hk K hK => ?_) ?_
    · skip
      have g15 : T[15]? = some (.pointer (some ⟨sb, 0, none⟩)) := hk.val 5 15 (by kernel_rfl) (by kernel_rfl) rfl
      have hS0 := hS
      have hd : L' 10 = false := hz 10 (by kernel_rfl)
      rw [hd, if_neg (by decide)] at hS0
      have hK := hK _ X (by rw [Reg.upd_ne _ _ (by decide)]; exact hS) (fun _ hx => Option.some.inj hx)
      subst hS0
      have hbk : W1.drew.heap[sb]? = some (.cells #[.pointer (some ⟨gb, 0, none⟩), .slice va L.length vc, .slice (some ⟨ib, 0, none⟩) n n, intV now] 134 (0, 0)) := HSB.out
      obtain ⟨c0, c1, c2, c3, cz⟩ := cells4v hbk
      unfold intV at c3
      clear hk hz hL hd hS hbk
      go_simp
      exact hK
    refine Reg.EachG.plain rfl (fun L' u T X hL hz hS hk K hK => ?_) ?_
    · skip
      have g16 : T[16]? = some (.pointer (some ⟨sb, 0, none⟩)) := hk.val 6 16 (by kernel_rfl) (by kernel_rfl) rfl
      have hS0 := hS
      have hd : L' 10 = false := hz 10 (by kernel_rfl)
      rw [hd, if_neg (by decide)] at hS0
      have hK := hK _ X (by rw [Reg.upd_ne _ _ (by decide)]; exact hS) (fun _ hx => Option.some.inj hx)
      subst hS0
      have hbk : W1.drew.heap[sb]? = some (.cells #[.pointer (some ⟨gb, 0, none⟩), .slice va L.length vc, .slice (some ⟨ib, 0, none⟩) n n, intV now] 134 (0, 0)) := HSB.out
      obtain ⟨c0, c1, c2, c3, cz⟩ := cells4v hbk
      unfold intV at c3
      clear hk hz hL hd hS hbk
      go_simp
      exact hK
    refine Reg.EachG.plain rfl (fun L' u T X hL hz hS hk K hK => ?_) ?_
    · skip
      have g17 : T[17]? = some (.pointer (some ⟨sb, 3, none⟩)) := hk.val 7 17 (by kernel_rfl) (by kernel_rfl) rfl
      have hS0 := hS
      have hd : L' 10 = false := hz 10 (by kernel_rfl)
      rw [hd, if_neg (by decide)] at hS0
      have hK := hK _ X (by rw [Reg.upd_ne _ _ (by decide)]; exact hS) (fun _ hx => Option.some.inj hx)
      subst hS0
      have hbk : W1.drew.heap[sb]? = some (.cells #[.pointer (some ⟨gb, 0, none⟩), .slice va L.length vc, .slice (some ⟨ib, 0, none⟩) n n, intV now] 134 (0, 0)) := HSB.out
      obtain ⟨c0, c1, c2, c3, cz⟩ := cells4v hbk
      unfold intV at c3
      clear hk hz hL hd hS hbk
      go_simp
      exact hK
    refine Reg.EachG.plain rfl (fun L' u T X hL hz hS hk K hK => ?_) ?_
    · skip
      have g13 : T[13]? = some (.slice (some ⟨ib, 0, none⟩) n n) := hk.val 3 13 (by kernel_rfl) (by kernel_rfl) rfl
      have g14 : T[14]? = some (.int .i64 (x : Nat)) := hk.val 4 14 (by kernel_rfl) (by kernel_rfl) rfl
      have hS0 := hS
      have hd : L' 10 = false := hz 10 (by kernel_rfl)
      rw [hd, if_neg (by decide)] at hS0
      have hK := hK _ X (by rw [Reg.upd_ne _ _ (by decide)]; exact hS) (fun _ hx => Option.some.inj hx)
      subst hS0
      have hbk : W1.drew.heap[sb]? = some (.cells #[.pointer (some ⟨gb, 0, none⟩), .slice va L.length vc, .slice (some ⟨ib, 0, none⟩) n n, intV now] 134 (0, 0)) := HSB.out
      obtain ⟨c0, c1, c2, c3, cz⟩ := cells4v hbk
      unfold intV at c3
      clear hk hz hL hd hS hbk
      go_simp
      exact hK
    refine Reg.EachG.plain rfl (fun L' u T X hL hz hS hk K hK => ?_) ?_
    · skip
      have g18 : T[18]? = some (.int .i64 (now : Nat)) := hk.val 8 18 (by kernel_rfl) (by kernel_rfl) rfl
      have g19 : T[19]? = some (.pointer (some ⟨ib, x, none⟩)) := hk.val 9 19 (by kernel_rfl) (by kernel_rfl) rfl
      rw [hL, if_neg (by decide)] at hS
      subst hS
      have hmk : W1.drew.heap[ib]? = some (.cells cur 3 (0, 0)) := HMB.out
      have cm : W1.drew.cell? ⟨ib, x, none⟩ = some cur[x] := (Lib.cell_of_heap hmk x).trans (Array.getElem?_eq_getElem hxc)
      have fm : W1.drew.frozen? ⟨ib, x, none⟩ = false := row_freeN hmk x
      have hml := lt_blkB hmk
      have hK := hK undef (W1.drew.setCell ⟨ib, x, none⟩ (intV now)) (by rw [Reg.upd_same, if_pos rfl]) (fun _ hx => by cases hx)
      unfold intV at hK
      clear hk hz hL hmk
      go_simp
      exact hK
    exact Reg.EachG.nil
  case rsZ =>
    intro L' u w1 hL hS hI
    have e0 : u 0 = .pointer (some ⟨sb, 0, none⟩) := hI 0 (by decide) _ rfl
    have e1 : u 1 = .pointer (some ⟨sb, 0, none⟩) := hI 1 (by decide) _ rfl
    have e2 : u 2 = .pointer (some ⟨sb, 2, none⟩) := hI 2 (by decide) _ rfl
    have e3 : u 3 = .slice (some ⟨ib, 0, none⟩) n n := hI 3 (by decide) _ rfl
    have e4 : u 4 = .int .i64 (x : Nat) := hI 4 (by decide) _ rfl
    have e5 : u 5 = .pointer (some ⟨sb, 0, none⟩) := hI 5 (by decide) _ rfl
    have e6 : u 6 = .pointer (some ⟨sb, 0, none⟩) := hI 6 (by decide) _ rfl
    have e7 : u 7 = .pointer (some ⟨sb, 3, none⟩) := hI 7 (by decide) _ rfl
    have e8 : u 8 = .int .i64 (now : Nat) := hI 8 (by decide) _ rfl
    have e9 : u 9 = .pointer (some ⟨ib, x, none⟩) := hI 9 (by decide) _ rfl
    clear hI
    simp only [Reg.putAll, Act.put, List.setIfInBounds_toArray, List.set_cons_succ, List.set_cons_zero, Nat.zero_add, Nat.reduceAdd, e0, e1, e2, e3, e4, e5, e6, e7, e8, e9]
    clear e0 e1 e2 e3 e4 e5 e6 e7 e8 e9
    have d10 := hL 10 (by decide)
    rw [d10, if_pos rfl] at hS
    subst hS
    clear d10 hL u L'
    obtain ⟨Wm, hWm⟩ : ∃ Wm, Wm = W1.drew.setCell ⟨ib, x, none⟩ (intV now) := ⟨_, rfl⟩
    rw [← hWm]
    have hsm : Wm.heap[sb]? = W1.heap[sb]? := by rw [hWm]; exact Below.heap_setCell _ _ _ _ hsi
    have HSM : Hid (Wm.heap[sb]? = some (.cells #[.pointer (some ⟨gb, 0, none⟩), .slice va L.length vc, .slice (some ⟨ib, 0, none⟩) n n, intV now] 134 (0, 0))) := Lib.hid (hsm.trans HSB.out)
    obtain ⟨Wl, hWl⟩ : ∃ Wl, Wl = Wm.alloc (.cells #[.int .i64 (x : Nat)] 3) := ⟨_, rfl⟩
    have hmz1 : Wm.heap.size = W1.heap.size := by rw [hWm]; show (W1.drew.setCell _ _).heap.size = W1.drew.heap.size; simp
    have HRM : Hid (Wl.ownsRow B 3 1 (.slice va L.length vc) L.length (L.map intV)) := Lib.hid (own_same HS1.out.row fun b hb cs hc => by
      have hbi : b ≠ ib := fun e => HS1.out.ne (by rw [hb, e])
      rw [hWl]
      show (Wm.alloc _).heap[b]? = _
      rw [Below.heap_alloc _ _ _ (by rw [hmz1]; exact lt_blkB hc), hWm, Below.heap_setCell _ _ _ _ hbi]
      rfl)
    have HGB : Hid (Wl.heap[W1.heap.size]? = some (.cells #[.int .i64 (x : Nat)] 3 (0, 0))) := Lib.hid (by rw [hWl, ← hmz1]; exact alloc_last Wm _)
    have hlz : Wl.heap.size = W1.heap.size + 1 := by rw [hWl]; show (Wm.alloc _).heap.size = _; simp [hmz1]
    have hBl : B ≤ Wl.heap.size := by omega
    have HHM : Hid (ChS B sb ib (.slice va L.length vc) (.slice va L.length vc) (W1.setCell ⟨ib, x, none⟩ (intV now)) Wl) := Lib.hid (ChS.below (by rw [hWl, hWm]; exact (((Below.refl (W1.setCell ⟨ib, x, none⟩ (intV now)).heap.size (W1.setCell ⟨ib, x, none⟩ (intV now))).drew).alloc (Nat.le_refl _) _)) (by simp; omega))
    have HMK : Hid (Wl.heap[ib]? = (W1.setCell ⟨ib, x, none⟩ (intV now)).heap[ib]?) := Lib.hid (by rw [hWl]; show (Wm.alloc _).heap[ib]? = _; rw [Below.heap_alloc _ _ _ (by omega), hWm]; rfl)
    have HSL : Hid (Wl.heap[sb]? = W1.heap[sb]?) := Lib.hid (by rw [hWl]; show (Wm.alloc _).heap[sb]? = _; rw [Below.heap_alloc _ _ _ (by omega), hsm])
    have HWL := Lib.hid hWl
    have hL6 : L.length ≤ 1000000 := by have := HS1.out.un; omega
    obtain ⟨c0, c1, c2, c3, cz⟩ := cells4v HSM.out
    clear hWm hsm hWl
    go_upto_region 4 with (first | (rw [← HWL.out]; refine app_int rfl _ _ rfl B (.slice va L.length vc) L.length (L.map intV) rfl HRM.out (x : Nat) W1.heap.size rfl HGB.out hL6 hBl ?_; intro b' cap' W2 ho2 hg2 hb2; have HPUT := Lib.hid (SetAt.put HS1.out hx HCT.out HHM.out HMK.out HSL.out ho2 hg2 hb2); have hs2 : W2.heap[sb]? = some (.cells #[.pointer (some ⟨gb, 0, none⟩), .slice va L.length vc, .slice (some ⟨ib, 0, none⟩) n n, intV now] 134 (0, 0)) := (hg2.block sb (by omega) (fun e => own_neK HS1.out.row HS1.out.blk (by decide) e.symm)).trans (HSL.out.trans HSB.out); have c1' : W2.cell? ⟨sb, 1, none⟩ = some (.slice va L.length vc) := (Lib.cell_of_heap hs2 1).trans rfl; have f1' : W2.frozen? ⟨sb, 1, none⟩ = false := row_freeN hs2 1; have hsl2 := lt_blkB hs2; clear ho2 hg2 hb2 hs2 c0 c1 c2 c3 cz) | fail)
    obtain ⟨v3, hv3⟩ : ∃ v3, v3 = Value.slice (some ⟨b', 0, none⟩) (L.length + 1) cap' := ⟨_, rfl⟩
    rw [← hv3] at HPUT ⊢
    have hvs3 : ∃ a c, v3 = .slice a (L.length + 1) c := ⟨_, _, hv3⟩
    clear hv3
    obtain ⟨W3, hW3⟩ : ∃ W3, W3 = W2.setCell ⟨sb, 1, none⟩ v3 := ⟨_, rfl⟩
    rw [← hW3] at HPUT ⊢
    have HS3 := Lib.hid HPUT.out.1
    have HC3 := Lib.hid (HC1.out.trans HPUT.out.2)
    have HG3 := Lib.hid (HG1.out.chS HPUT.out.2 HS1.out)
    have HP3 : Hid (W3.heap[w.heap.size]? = some (.cells #[.bool pb, .bool pe] 87 (0, 0))) := Lib.hid (HPUT.out.2.blk HS1.out HP1.out (by decide) (by decide))
    have hB3 : B ≤ W3.heap.size := Nat.le_trans hB HC3.out.bel.size
    have hxl : x < g.length := by have := HN.out; omega
    obtain ⟨s, hsx⟩ : ∃ s, g[x]? = some s := ⟨_, List.getElem?_eq_getElem hxl⟩
    obtain ⟨g0, cap, cur2, hgc, hgl, hg0, hgp⟩ := HG3.out.at hsx
    obtain ⟨q0, q1, q2, q3, qz⟩ := cells4v HS3.out.blk
    have HSX := Lib.hid hsx
    have HG0 := Lib.hid hg0
    have HGP := Lib.hid hgp
    have HL7 : Hid (s.cells.length = 7) := Lib.hid s.cells_len
    have HONE : Hid (s.cells.all (·.oneCell') = true) := Lib.hid (List.all_eq_true.2 s.one)
    have HSP : Hid ((spl zero7.toList 0 s.cells).toArray = s.cells.toArray) := Lib.hid (by rw [spl_all _ _ (by rw [s.cells_len]; rfl)])
    obtain ⟨W4, hW4⟩ : ∃ W4, W4 = W3.alloc (.cells zero7 122) := ⟨_, rfl⟩
    obtain ⟨W5, hW5⟩ : ∃ W5, W5 = W4.setRow W3.heap.size s.cells.toArray := ⟨_, rfl⟩
    have hk4 : W4.heap[W3.heap.size]? = some (.cells zero7 122 (0, 0)) := by rw [hW4]; exact alloc_last W3 _
    have hb5 : Below W3.heap.size W3 W5 := by rw [hW5, hW4]; exact below_setRow ((Below.refl _ _).alloc (Nat.le_refl _) _) (Nat.le_refl _) _
    have HT5 : Hid (W5.heap[W3.heap.size]? = some (.cells s.cells.toArray 122 (0, 0))) := Lib.hid (by rw [hW5]; exact setRow_selfR hk4 _)
    have HS5 := Lib.hid (HS3.out.below hb5)
    have HC5 : Hid (ChS B sb ib (.slice va L.length vc) v3 w W5) := Lib.hid (HC3.out.trans (ChS.below hb5 hB3))
    have HG5 := Lib.hid (HG3.out.below hb5)
    have HP5 := Lib.hid (blk_below HP3.out hb5)
    have hB5 : B ≤ W5.heap.size := Nat.le_trans hB3 hb5.size
    have HK4 := Lib.hid hk4
    have HW4 := Lib.hid hW4
    have HW5 := Lib.hid hW5
    have hxg : (x : Int) < (g.length : Int) := by omega
    have HUA : Hid (unm n (L ++ [x]) + 1 = unm n L) := Lib.hid (unm_add n L x hx HCT.out)
    have hz4 : W3.heap.size < W4.heap.size := lt_blkB hk4
    obtain ⟨a3, c3', rfl⟩ := hvs3
    clear hW3 hW4 hW5 hk4 hb5 hsx hg0 hgp hsl2 f1' c1' HPUT
    unfold zero7 at HW4
    go_upto_region 5 with (first | (refine wpList_load_part rfl 122 _ rfl g0 (x * 7) rfl _ cur2 s.cells (0, 0) _ HG0.out HGP.out Tryz.underlying122 rfl (by rw [HL7.out]; exact st_size) ?_) | (rw [← HW4.out]; refine wpList_store_partC rfl 122 _ _ rfl rfl W3.heap.size 0 s.cells rfl rfl 122 zero7 HK4.out (by rw [HL7.out]; exact st_size) (by rw [HL7.out]; decide) HONE.out s.cells.toArray HSP.out ?_; rw [← HW5.out]) | fail)
    clear hgc hgl q0 q1 q2 q3 qz HG0 HGP HK4 HW4 HW5 HSP HONE HL7
    have hp5 : W5.cell? ⟨w.heap.size, 0, none⟩ = some (.bool pb) := (Lib.cell_of_heap HP5.out 0).trans rfl
    have hp6 : W5.cell? ⟨w.heap.size, 1, none⟩ = some (.bool pe) := (Lib.cell_of_heap HP5.out 1).trans rfl
    have hpz := lt_blkB HP5.out
    have HCALL : Hid (∀ (X : World) (L' : List Nat) (v' : Value) (y : Nat), ChS B sb ib (.slice va L.length vc) v' w X → GrAt B' gb g st X → SetAt B gb sb ib n L' now v' X → unm n L' < k → y < n → Calls Tryz.prog 77 #[.pointer (some ⟨sb, 0, none⟩), .int .i64 (y : Nat), .agg #[.bool pb, .bool pe]] X fun r w' => r = .returned (.tuple #[]) ∧ ∃ v'', SetAt B gb sb ib n (addF g pb pe k y L') now v'' w' ∧ ChS B sb ib v' v'' X w') := Lib.hid (fun X L' v' y h1 h2 h3 h4 h5 => HIH.out B B' gb st sb ib n now g L' v' y pb pe X HN.out HCL.out hn6 h2 h3 (Nat.le_trans hB h1.bel.size) h4 h5)
    have hto := HT5.out
    cases s with
    | acc =>
      obtain ⟨t0, t1, t2, t3, t4, t5, t6, tz⟩ := cells7s (show W5.heap[W3.heap.size]? = some (.cells #[.int .i64 0, _, _, _, _, .int .i64 _, .int .i64 _] 122 (0, 0)) from hto)
      have HE : Hid (addF g pb pe (k + 1) x L = L ++ [x]) := Lib.hid (addF_acc HCT.out HSX.out)
      clear hto
      go_wp2
      go_end0
      rw [HE.out]
      exact ⟨rfl, _, HS5.out, HC5.out⟩
    | eat p y =>
      obtain ⟨t0, t1, t2, t3, t4, t5, t6, tz⟩ := cells7s (show W5.heap[W3.heap.size]? = some (.cells #[.int .i64 1, _, _, _, _, .int .i64 _, .int .i64 _] 122 (0, 0)) from hto)
      have HE : Hid (addF g pb pe (k + 1) x L = L ++ [x]) := Lib.hid (addF_eat HCT.out HSX.out)
      clear hto
      go_wp2
      go_end0
      rw [HE.out]
      exact ⟨rfl, _, HS5.out, HC5.out⟩
    | beg y =>
      have hto2 : W5.heap[W3.heap.size]? = some (.cells #[.int .i64 2, .int .u64 (sw noP 0 : Nat), .int .u64 (sw noP 1 : Nat), .int .u64 (sw noP 2 : Nat), .int .u64 (sw noP 3 : Nat), .int .i64 (y : Nat), .int .i64 (0 : Nat)] 122 (0, 0)) := hto
      obtain ⟨t0, t1, t2, t3, t4, t5, t6, tz⟩ := cells7s hto2
      have HE := Lib.hid (addF_beg (pb := pb) (pe := pe) (k := k) HCT.out HSX.out)
      have hyn : y < n := by have := HCL.out x _ HSX.out y (by simp [St.to]); have := HN.out; omega
      have hun : unm n (L ++ [x]) < k := by have := HUA.out; omega
      clear hto hto2
      cases pb with
      | false =>
        go_wp2
        go_end0
        rw [HE.out]
        exact ⟨rfl, _, HS5.out, HC5.out⟩
      | true =>
        go_wp2_with fail
        refine (HCALL.out W5 _ _ y HC5.out HG5.out HS5.out hun hyn).mono ?_
        rintro r W6 ⟨rfl, v6, hs6, hc6⟩
        have HS6 := Lib.hid hs6
        have HC6 := Lib.hid (HC5.out.trans hc6)
        clear hs6 hc6 t0 t1 t2 t3 t4 t5 t6
        go_wp2
        go_end0
        rw [HE.out]
        exact ⟨rfl, _, HS6.out, HC6.out⟩
    | fin y =>
      have hto2 : W5.heap[W3.heap.size]? = some (.cells #[.int .i64 3, .int .u64 (sw noP 0 : Nat), .int .u64 (sw noP 1 : Nat), .int .u64 (sw noP 2 : Nat), .int .u64 (sw noP 3 : Nat), .int .i64 (y : Nat), .int .i64 (0 : Nat)] 122 (0, 0)) := hto
      obtain ⟨t0, t1, t2, t3, t4, t5, t6, tz⟩ := cells7s hto2
      have HE := Lib.hid (addF_fin (pb := pb) (pe := pe) (k := k) HCT.out HSX.out)
      have hyn : y < n := by have := HCL.out x _ HSX.out y (by simp [St.to]); have := HN.out; omega
      have hun : unm n (L ++ [x]) < k := by have := HUA.out; omega
      clear hto hto2
      cases pe with
      | false =>
        go_wp2
        go_end0
        rw [HE.out]
        exact ⟨rfl, _, HS5.out, HC5.out⟩
      | true =>
        go_wp2_with fail
        refine (HCALL.out W5 _ _ y HC5.out HG5.out HS5.out hun hyn).mono ?_
        rintro r W6 ⟨rfl, v6, hs6, hc6⟩
        have HS6 := Lib.hid hs6
        have HC6 := Lib.hid (HC5.out.trans hc6)
        clear hs6 hc6 t0 t1 t2 t3 t4 t5 t6
        go_wp2
        go_end0
        rw [HE.out]
        exact ⟨rfl, _, HS6.out, HC6.out⟩
    | fork y z =>
      have hto2 : W5.heap[W3.heap.size]? = some (.cells #[.int .i64 4, .int .u64 (sw noP 0 : Nat), .int .u64 (sw noP 1 : Nat), .int .u64 (sw noP 2 : Nat), .int .u64 (sw noP 3 : Nat), .int .i64 (y : Nat), .int .i64 (z : Nat)] 122 (0, 0)) := hto
      have HTO := Lib.hid hto2
      obtain ⟨t0, t1, t2, t3, t4, t5, t6, tz⟩ := cells7s hto2
      have HE := Lib.hid (addF_fork (pb := pb) (pe := pe) (k := k) HCT.out HSX.out)
      have hyn : y < n := by have := HCL.out x _ HSX.out y (by simp [St.to]); have := HN.out; omega
      have hzn : z < n := by have := HCL.out x _ HSX.out z (by simp [St.to]); have := HN.out; omega
      have hun : unm n (L ++ [x]) < k := by have := HUA.out; omega
      have hun2 : unm n (addF g pb pe k y (L ++ [x])) < k := by
        have h1 := (addF_any HCL.out pb pe k y (L ++ [x]) (by rw [← HN.out]; exact hun) (by rw [← HN.out]; exact hyn)).unm
        rw [← HN.out] at h1
        omega
      clear hto hto2
      go_wp2_with fail
      refine (HCALL.out W5 _ _ y HC5.out HG5.out HS5.out hun hyn).mono ?_
      rintro r W6 ⟨rfl, v6, hs6, hc6⟩
      have hto6 := hc6.blk HS5.out HTO.out (by decide) (by decide)
      have hp7 := hc6.blk HS5.out HP5.out (by decide) (by decide)
      have HS6 := Lib.hid hs6
      have HC6 := Lib.hid (HC5.out.trans hc6)
      have HG6 := Lib.hid (HG5.out.chS hc6 HS5.out)
      clear hs6 hc6 t0 t1 t2 t3 t4 t5 t6 tz hp5 hp6 hpz
      obtain ⟨t0, t1, t2, t3, t4, t5, t6, tz⟩ := cells7s hto6
      have hp5 : W6.cell? ⟨w.heap.size, 0, none⟩ = some (.bool pb) := (Lib.cell_of_heap hp7 0).trans rfl
      have hp6 : W6.cell? ⟨w.heap.size, 1, none⟩ = some (.bool pe) := (Lib.cell_of_heap hp7 1).trans rfl
      have hpz := lt_blkB hp7
      clear hto6 hp7
      go_wp2_with fail
      refine (HCALL.out W6 _ _ z HC6.out HG6.out HS6.out hun2 hzn).mono ?_
      rintro r W7 ⟨rfl, v7, hs7, hc7⟩
      have HS7 := Lib.hid hs7
      have HC7 := Lib.hid (HC6.out.trans hc7)
      clear hs7 hc7 t0 t1 t2 t3 t4 t5 t6
      go_wp2
      go_end0
      rw [HE.out]
      exact ⟨rfl, _, HS7.out, HC7.out⟩
/-- PUTTING IN. -/
theorem add_all : ∀ k, AddC k
  | 0 => fun B B' gb st sb ib n now g L v x pb pe w _ _ _ _ _ _ hu => by omega
  | k + 1 => add_step k (add_all k)
end Go.Proofs.YtcceiblmdjbhjaaGreatDoor
/- Enter (gen_nffo.py); what is read off a set; two sets apart. -/
namespace Go.Proofs.YtcceiblmdjbhjaaGreatDoor
open Go.RowKit

theorem GrAt.st {B gb st : Nat} {g : List St} {X : World} (h : GrAt B gb g st X) : X.cell? ⟨gb, 1, none⟩ = some (.int .i64 (st : Nat)) ∧ gb < X.heap.size := by
  obtain ⟨_, v, h1, _⟩ := h
  exact ⟨(Lib.cell_of_heap h1 1).trans rfl, lt_blkB h1⟩
set_option maxRecDepth 100000 in
set_option maxHeartbeats 8000000 in
theorem enter_any (B B' gb st sb ib n now : Nat) (g : List St) (L : List Nat) (v : Value) (pb pe : Bool) (w : World) (hn : n = g.length) (hcl : ClG g) (hn6 : n ≤ 1000000) (hg : GrAt B' gb g st w) (hS : SetAt B gb sb ib n L now v w) (hB : B ≤ w.heap.size) (hst : st < n) :
    Calls Tryz.prog 46 #[.pointer (some ⟨sb, 0, none⟩), .agg #[.bool pb, .bool pe]] w fun r w' => r = .returned (.tuple #[]) ∧ ∃ v', SetAt B gb sb ib n (addF g pb pe (n + 1) st L) now v' w' ∧ ChS B sb ib v v' w w' := by
  obtain ⟨W, hW⟩ : ∃ W, W = w.alloc (.cells #[.bool pb, .bool pe] 87) := ⟨_, rfl⟩
  have hb : Below w.heap.size w W := by rw [hW]; exact (Below.refl _ _).alloc (Nat.le_refl _) _
  have hbd : Below w.heap.size w W.drew := hb.drew
  have HP0 : Hid (W.drew.heap[w.heap.size]? = some (.cells #[.bool pb, .bool pe] 87 (0, 0))) := Lib.hid (by rw [hW]; exact alloc_last w _)
  have HSW := Lib.hid (hS.below hbd)
  have HGW := Lib.hid (hg.below hbd)
  have HCW : Hid (ChS B sb ib v v w W.drew) := Lib.hid (ChS.below hbd hB)
  have HA := Lib.hid (add_all (n + 1) B B' gb st sb ib n now g L v st pb pe W.drew hn hcl hn6 HGW.out HSW.out (Nat.le_trans hB hbd.size) (by have := unm_le n L; omega) hst)
  have HWE := Lib.hid hW
  obtain ⟨c0, c1, c2, c3, cz⟩ := cells4v HSW.out.blk
  obtain ⟨d1, dz⟩ := HGW.out.st
  have p0 : W.drew.cell? ⟨w.heap.size, 0, none⟩ = some (.bool pb) := (Lib.cell_of_heap HP0.out 0).trans rfl
  have p1 : W.drew.cell? ⟨w.heap.size, 1, none⟩ = some (.bool pe) := (Lib.cell_of_heap HP0.out 1).trans rfl
  have pz := lt_blkB HP0.out
  clear hW hb hbd hg hS hcl hn c1 c2 c3
  go_enter Tryz.func46, Tryz.ntmps46
  go_upto_region 1 with fail
  rw [← HWE.out]
  refine Reg.wp_region_sto (fun L' u X => if L' 9 = true then ∃ v', SetAt B gb sb ib n (addF g pb pe (n + 1) st L) now v' X ∧ ChS B sb ib v v' w X else X = W.drew) (fun j => ([some (.pointer (some ⟨sb, 0, none⟩)), some (.pointer (some ⟨sb, 0, none⟩)), some (.pointer (some ⟨sb, 0, none⟩)), some (.pointer (some ⟨sb, 0, none⟩)), some (.pointer (some ⟨gb, 0, none⟩)), some (.pointer (some ⟨gb, 0, none⟩)), some (.pointer (some ⟨gb, 1, none⟩)), some (.int .i64 (st : Nat)), some (.agg #[.bool pb, .bool pe]), some (.tuple #[])] : List (Option Value)).getD j none) (by kernel_rfl) (by kernel_rfl) (by kernel_rfl) (by kernel_rfl) ?rs0 ?rsE ?rsZ
  case rs0 => (rw [if_neg (by decide)]; rfl)
  case rsE =>
    refine Reg.EachG.plain rfl (fun L' u T X hL hz hS hk K hK => ?_) ?_
    · skip
      have g0 : T[0]? = some (.pointer (some ⟨sb, 0, none⟩)) := hk.old 0 (by kernel_rfl) rfl
      have hS0 := hS
      have hd : L' 9 = false := hz 9 (by kernel_rfl)
      rw [hd, if_neg (by decide)] at hS0
      have hK := hK _ X (by rw [Reg.upd_ne _ _ (by decide)]; exact hS) (fun _ hx => Option.some.inj hx)
      subst hS0
      clear hk hz hL hd hS
      go_simp
      exact hK
    refine Reg.EachG.plain rfl (fun L' u T X hL hz hS hk K hK => ?_) ?_
    · skip
      have g0 : T[0]? = some (.pointer (some ⟨sb, 0, none⟩)) := hk.old 0 (by kernel_rfl) rfl
      have hS0 := hS
      have hd : L' 9 = false := hz 9 (by kernel_rfl)
      rw [hd, if_neg (by decide)] at hS0
      have hK := hK _ X (by rw [Reg.upd_ne _ _ (by decide)]; exact hS) (fun _ hx => Option.some.inj hx)
      subst hS0
      clear hk hz hL hd hS
      go_simp
      exact hK
    refine Reg.EachG.plain rfl (fun L' u T X hL hz hS hk K hK => ?_) ?_
    · skip
      have g5 : T[5]? = some (.pointer (some ⟨sb, 0, none⟩)) := hk.val 1 5 (by kernel_rfl) (by kernel_rfl) rfl
      have hS0 := hS
      have hd : L' 9 = false := hz 9 (by kernel_rfl)
      rw [hd, if_neg (by decide)] at hS0
      have hK := hK _ X (by rw [Reg.upd_ne _ _ (by decide)]; exact hS) (fun _ hx => Option.some.inj hx)
      subst hS0
      clear hk hz hL hd hS
      go_simp
      exact hK
    refine Reg.EachG.plain rfl (fun L' u T X hL hz hS hk K hK => ?_) ?_
    · skip
      have g6 : T[6]? = some (.pointer (some ⟨sb, 0, none⟩)) := hk.val 2 6 (by kernel_rfl) (by kernel_rfl) rfl
      have hS0 := hS
      have hd : L' 9 = false := hz 9 (by kernel_rfl)
      rw [hd, if_neg (by decide)] at hS0
      have hK := hK _ X (by rw [Reg.upd_ne _ _ (by decide)]; exact hS) (fun _ hx => Option.some.inj hx)
      subst hS0
      clear hk hz hL hd hS
      go_simp
      exact hK
    refine Reg.EachG.plain rfl (fun L' u T X hL hz hS hk K hK => ?_) ?_
    · skip
      have g7 : T[7]? = some (.pointer (some ⟨sb, 0, none⟩)) := hk.val 3 7 (by kernel_rfl) (by kernel_rfl) rfl
      have hS0 := hS
      have hd : L' 9 = false := hz 9 (by kernel_rfl)
      rw [hd, if_neg (by decide)] at hS0
      have hK := hK _ X (by rw [Reg.upd_ne _ _ (by decide)]; exact hS) (fun _ hx => Option.some.inj hx)
      subst hS0
      clear hk hz hL hd hS
      go_simp
      exact hK
    refine Reg.EachG.plain rfl (fun L' u T X hL hz hS hk K hK => ?_) ?_
    · skip
      have g8 : T[8]? = some (.pointer (some ⟨gb, 0, none⟩)) := hk.val 4 8 (by kernel_rfl) (by kernel_rfl) rfl
      have hS0 := hS
      have hd : L' 9 = false := hz 9 (by kernel_rfl)
      rw [hd, if_neg (by decide)] at hS0
      have hK := hK _ X (by rw [Reg.upd_ne _ _ (by decide)]; exact hS) (fun _ hx => Option.some.inj hx)
      subst hS0
      clear hk hz hL hd hS
      go_simp
      exact hK
    refine Reg.EachG.plain rfl (fun L' u T X hL hz hS hk K hK => ?_) ?_
    · skip
      have g9 : T[9]? = some (.pointer (some ⟨gb, 0, none⟩)) := hk.val 5 9 (by kernel_rfl) (by kernel_rfl) rfl
      have hS0 := hS
      have hd : L' 9 = false := hz 9 (by kernel_rfl)
      rw [hd, if_neg (by decide)] at hS0
      have hK := hK _ X (by rw [Reg.upd_ne _ _ (by decide)]; exact hS) (fun _ hx => Option.some.inj hx)
      subst hS0
      clear hk hz hL hd hS
      go_simp
      exact hK
    refine Reg.EachG.plain rfl (fun L' u T X hL hz hS hk K hK => ?_) ?_
    · skip
      have g10 : T[10]? = some (.pointer (some ⟨gb, 1, none⟩)) := hk.val 6 10 (by kernel_rfl) (by kernel_rfl) rfl
      have hS0 := hS
      have hd : L' 9 = false := hz 9 (by kernel_rfl)
      rw [hd, if_neg (by decide)] at hS0
      have hK := hK _ X (by rw [Reg.upd_ne _ _ (by decide)]; exact hS) (fun _ hx => Option.some.inj hx)
      subst hS0
      clear hk hz hL hd hS
      go_simp
      exact hK
    refine Reg.EachG.plain rfl (fun L' u T X hL hz hS hk K hK => ?_) ?_
    · skip
      have g3 : T[3]? = some (.pointer (some ⟨w.heap.size, 0, none⟩)) := hk.old 3 (by kernel_rfl) rfl
      have hS0 := hS
      have hd : L' 9 = false := hz 9 (by kernel_rfl)
      rw [hd, if_neg (by decide)] at hS0
      have hK := hK _ X (by rw [Reg.upd_ne _ _ (by decide)]; exact hS) (fun _ hx => Option.some.inj hx)
      subst hS0
      clear hk hz hL hd hS
      go_simp
      exact hK
    refine Reg.EachG.plain rfl (fun L' u T X hL hz hS hk K hK => ?_) ?_
    · skip
      have g4 : T[4]? = some (.pointer (some ⟨sb, 0, none⟩)) := hk.val 0 4 (by kernel_rfl) (by kernel_rfl) rfl
      have g11 : T[11]? = some (.int .i64 (st : Nat)) := hk.val 7 11 (by kernel_rfl) (by kernel_rfl) rfl
      have g12 : T[12]? = some (.agg #[.bool pb, .bool pe]) := hk.val 8 12 (by kernel_rfl) (by kernel_rfl) rfl
      rw [hL, if_neg (by decide)] at hS
      subst hS
      clear hk hz
      go_simp
      refine HA.out.mono ?_
      rintro r X1 ⟨rfl, v', h1, h2⟩
      exact hK _ X1 (by rw [Reg.upd_same, if_pos rfl]; exact ⟨v', h1, HCW.out.trans h2⟩) (fun _ hx => Option.some.inj hx)
    exact Reg.EachG.nil
  case rsZ =>
    intro L' u w1 hL hS hI
    have e0 : u 0 = .pointer (some ⟨sb, 0, none⟩) := hI 0 (by decide) _ rfl
    have e1 : u 1 = .pointer (some ⟨sb, 0, none⟩) := hI 1 (by decide) _ rfl
    have e2 : u 2 = .pointer (some ⟨sb, 0, none⟩) := hI 2 (by decide) _ rfl
    have e3 : u 3 = .pointer (some ⟨sb, 0, none⟩) := hI 3 (by decide) _ rfl
    have e4 : u 4 = .pointer (some ⟨gb, 0, none⟩) := hI 4 (by decide) _ rfl
    have e5 : u 5 = .pointer (some ⟨gb, 0, none⟩) := hI 5 (by decide) _ rfl
    have e6 : u 6 = .pointer (some ⟨gb, 1, none⟩) := hI 6 (by decide) _ rfl
    have e7 : u 7 = .int .i64 (st : Nat) := hI 7 (by decide) _ rfl
    have e8 : u 8 = .agg #[.bool pb, .bool pe] := hI 8 (by decide) _ rfl
    have e9 : u 9 = .tuple #[] := hI 9 (by decide) _ rfl
    clear hI
    simp only [Reg.putAll, Act.put, List.setIfInBounds_toArray, List.set_cons_succ, List.set_cons_zero, Nat.zero_add, Nat.reduceAdd, e0, e1, e2, e3, e4, e5, e6, e7, e8, e9]
    clear e0 e1 e2 e3 e4 e5 e6 e7 e8 e9
    have d9 := hL 9 (by decide)
    rw [d9, if_pos rfl] at hS
    obtain ⟨v', h1, h2⟩ := hS
    have H1 := Lib.hid h1
    have H2 := Lib.hid h2
    clear h1 h2 d9 hL u L' c0 d1 p0 p1
    go_wp2
    go_end0
    exact ⟨rfl, v', H1.out, H2.out⟩

theorem setAcc_any (B gb sb ib n : Nat) (L : List Nat) (now : Nat) (v : Value) (w : World) (h : SetAt B gb sb ib n L now v w) (hn : 0 < n) :
    Calls Tryz.prog 49 #[.pointer (some ⟨sb, 0, none⟩)] w fun r w' => r = .returned (.bool (L.contains 0)) ∧ Below w.heap.size w w' := by
  have HH := Lib.hid (shas_any B gb sb ib n L now v 0 w h hn)
  clear h
  generalize L.contains 0 = q at *
  go_enter Tryz.func49, Tryz.ntmps49
  go_wp2_with fail
  refine HH.out.mono ?_
  rintro r w1 ⟨rfl, hb⟩
  have HB := Lib.hid hb
  clear hb
  go_wp2
  go_ret
  exact ⟨rfl, HB.out⟩
/-- The list is emptied, the filling counted. -/
theorem SetAt.clear {B gb sb ib n now : Nat} {L : List Nat} {a : Option Addr} {c : Nat} {w : World} (h : SetAt B gb sb ib n L now (.slice a L.length c) w) :
    SetAt B gb sb ib n [] (now + 1) (.slice a 0 c) ((w.setCell ⟨sb, 1, none⟩ (.slice a 0 c)).setCell ⟨sb, 3, none⟩ (intV (now + 1))) ∧ ChS B sb ib (.slice a L.length c) (.slice a 0 c) w ((w.setCell ⟨sb, 1, none⟩ (.slice a 0 c)).setCell ⟨sb, 3, none⟩ (intV (now + 1))) := by
  obtain ⟨cur, h1, h2, h3⟩ := h.mks
  have hsi : ib ≠ sb := fun e => by have := h.blk; rw [← e, h1] at this; simp at this
  have hoth : ∀ i, i ≠ sb → ((w.setCell ⟨sb, 1, none⟩ (.slice a 0 c)).setCell ⟨sb, 3, none⟩ (intV (now + 1))).heap[i]? = w.heap[i]? := fun i hi => (Below.heap_setCell _ _ _ _ hi).trans (Below.heap_setCell _ _ _ _ hi)
  have hob : (Value.slice a 0 c).ownBlock = (Value.slice a L.length c).ownBlock := by cases a <;> rfl
  refine ⟨⟨?_, ?_, ?_, ⟨cur, (hoth ib hsi).trans h1, h2, fun x hx => ?_⟩, h.lo, ?_, by omega⟩, ((Below.refl _ _).setCell (p := ⟨sb, 1, none⟩) h.lo.1 _).setCell (p := ⟨sb, 3, none⟩) h.lo.1 _, fun i _ hi _ _ => hoth i hi, Or.inl hob⟩
  · simp [World.setCell, Array.getElem?_modify, h.blk]
  · obtain ⟨_, ⟨e, hz⟩ | ⟨g, cap, cu, e, hB, hg, hnc, hcm, hcs, htk⟩⟩ := h.row
    · simp only [Value.slice.injEq] at e
      obtain ⟨rfl, _, rfl⟩ := e
      exact World.ownsRow_nil _ _ _ _
    · simp only [Value.slice.injEq] at e
      obtain ⟨rfl, _, rfl⟩ := e
      have hgs : g ≠ sb := fun e => by have := h.blk; rw [← e, hg] at this; simp at this
      exact ⟨rfl, Or.inr ⟨g, c, cu, rfl, hB, (hoth g hgs).trans hg, Nat.zero_le _, hcm, hcs, by simp⟩⟩
  · rw [hob]; exact h.ne
  · obtain ⟨q, hq1, hq2, hq3⟩ := h3 x hx
    exact ⟨q, hq1, by omega, by simp; omega⟩
  · rw [unm_nil]; simp
/-- Two sets that share no block. -/
structure Apart (sb ib : Nat) (v : Value) (sb2 ib2 : Nat) (v2 : Value) : Prop where
  s : sb ≠ sb2
  i : ib ≠ ib2
  n1 : v.ownBlock ≠ some ib2
  n2 : v2.ownBlock ≠ some ib
  n3 : ∀ b, v.ownBlock = some b → v2.ownBlock ≠ some b
theorem Apart.symm {sb ib sb2 ib2 : Nat} {v v2 : Value} (h : Apart sb ib v sb2 ib2 v2) : Apart sb2 ib2 v2 sb ib v := ⟨h.s.symm, h.i.symm, h.n2, h.n1, fun b hb e => h.n3 b e hb⟩
/-- The other set is as it was. -/
theorem SetAt.other {B gb sb ib sb2 ib2 n now now2 : Nat} {L L2 : List Nat} {v v' v2 : Value} {w w' : World} (h2 : SetAt B gb sb2 ib2 n L2 now2 v2 w) (h1 : SetAt B gb sb ib n L now v w) (hc : ChS B sb ib v v' w w') (ha : Apart sb ib v sb2 ib2 v2) : SetAt B gb sb2 ib2 n L2 now2 v2 w' ∧ Apart sb ib v' sb2 ib2 v2 := by
  obtain ⟨cur, m1, m2, m3⟩ := h2.mks
  obtain ⟨cur1, k1, _⟩ := h1.mks
  have hl2 := lt_blkB h2.blk
  have hm2 := lt_blkB m1
  have e1 : w'.heap[sb2]? = w.heap[sb2]? := hc.oth sb2 hl2 (fun e => ha.s e.symm) (fun e => by have := h2.blk; rw [e, k1] at this; simp at this) (own_neK h1.row h2.blk (by decide))
  have e2 : w'.heap[ib2]? = w.heap[ib2]? := hc.oth ib2 hm2 (fun e => by have := h1.blk; rw [← e, m1] at this; simp at this) (fun e => ha.i e.symm) ha.n1
  have e3 : ∀ b, v2.ownBlock = some b → ∀ cs, w.heap[b]? = some (.cells cs 3 (0, 0)) → w'.heap[b]? = w.heap[b]? := fun b hb cs hcs => hc.oth b (lt_blkB hcs) (fun e => by have := h1.blk; rw [← e, hcs] at this; simp at this) (fun e => ha.n2 (by rw [hb, e])) (fun e => ha.n3 b e hb)
  refine ⟨⟨e1.trans h2.blk, own_same h2.row e3, h2.ne, ⟨cur, e2.trans m1, m2, m3⟩, h2.lo, h2.un, h2.now1⟩, ha.s, ha.i, ?_, ha.n2, fun b hb e => ?_⟩
  · rcases hc.nb with e | ⟨q, e, hq⟩
    · rw [e]; exact ha.n1
    · rw [e]; intro e'; have := Option.some.inj e'; omega
  · rcases hc.nb with e4 | ⟨q, e4, hq⟩
    · exact ha.n3 b (e4.symm.trans hb) e
    · have hbq : q = b := Option.some.inj (e4.symm.trans hb)
      have := (h2.row.lt b e).2
      omega
end Go.Proofs.YtcceiblmdjbhjaaGreatDoor
/- Follow: what is reached behind a byte. -/
namespace Go.Proofs.YtcceiblmdjbhjaaGreatDoor
open Go.RowKit

theorem SetAt.elem {B gb sb ib n now : Nat} {L : List Nat} {v : Value} {w : World} (h : SetAt B gb sb ib n L now v w) {i : Nat} (hi : i < L.length) : ∃ b c, v = .slice (some ⟨b, 0, none⟩) L.length c ∧ w.cell? ⟨b, i, none⟩ = some (.int .i64 (L[i] : Nat)) ∧ b < w.heap.size := by
  obtain ⟨_, ⟨_, hz⟩ | ⟨g, cap, cu, e, hB, hg, hnc, hcm, hcs, htk⟩⟩ := h.row
  · omega
  refine ⟨g, cap, e, ?_, lt_blkB hg⟩
  rw [Lib.cell_of_heap hg]
  have h1 : (cu.toList.take (L.length * 1))[i]? = (L.map intV)[i]? := by rw [htk]
  rw [List.getElem?_take, if_pos (by omega), List.getElem?_map, List.getElem?_eq_getElem hi] at h1
  simpa [intV] using h1
theorem eatF_no {G : List St} {pb pe : Bool} {c : Int} {A : List Nat} {x : Nat} (h : ∀ p y, G[x]? ≠ some (.eat p y)) : eatF G pb pe c A x = A := by
  unfold eatF
  split
  · rename_i p y e; exact (h p y e).elim
  · rfl
theorem eatF_eat {G : List St} {pb pe : Bool} {c : Int} {A : List Nat} {x y : Nat} {p : Nat → Bool} (e : G[x]? = some (.eat p y)) : eatF G pb pe c A x = if p c.toNat then addF G pb pe (G.length + 1) y A else A := by
  unfold eatF
  rw [e]
theorem foldl_take {α β : Type} (f : β → α → β) (b : β) (l : List α) (i : Nat) (h : i < l.length) : (l.take (i + 1)).foldl f b = f ((l.take i).foldl f b) l[i] := by
  rw [List.take_succ_eq_append_getElem h, List.foldl_append]
  rfl

set_option maxRecDepth 100000 in
set_option maxHeartbeats 16000000 in
theorem follow_any (B B' gb st sb ib sb2 ib2 n now now2 : Nat) (g : List St) (L L2 : List Nat) (v v2 : Value) (c : Nat) (hc : c < 256) (pb pe : Bool) (w : World) (hn : n = g.length) (hcl : ClG g) (hn6 : n ≤ 1000000) (hnow : now ≤ 1099511627776) (hg : GrAt B' gb g st w) (hS : SetAt B gb sb ib n L now v w) (hS2 : SetAt B gb sb2 ib2 n L2 now2 v2 w) (hap : Apart sb ib v sb2 ib2 v2) (hL2 : ∀ y ∈ L2, y < n) (hB : B ≤ w.heap.size) :
    Calls Tryz.prog 48 #[.pointer (some ⟨sb, 0, none⟩), .pointer (some ⟨sb2, 0, none⟩), .int .u8 (c : Nat), .agg #[.bool pb, .bool pe]] w fun r w' => r = .returned (.tuple #[]) ∧ ∃ v', SetAt B gb sb ib n (stepF g pb pe (c : Nat) L2) (now + 1) v' w' ∧ ChS B sb ib v v' w w' := by
  obtain ⟨va, vc, rfl⟩ := own_shapeR hS.row
  obtain ⟨wa, wc, rfl⟩ := own_shapeR hS2.row
  obtain ⟨W, hW⟩ : ∃ W, W = w.alloc (.cells #[.bool pb, .bool pe] 87) := ⟨_, rfl⟩
  have hb : Below w.heap.size w W := by rw [hW]; exact (Below.refl _ _).alloc (Nat.le_refl _) _
  have hp0 : W.heap[w.heap.size]? = some (.cells #[.bool pb, .bool pe] 87 (0, 0)) := by rw [hW]; exact alloc_last w _
  have hSW := hS.below hb
  have hBW : B ≤ W.heap.size := Nat.le_trans hB hb.size
  obtain ⟨W2, hW2⟩ : ∃ W2, W2 = (W.setCell ⟨sb, 1, none⟩ (.slice va 0 vc)).setCell ⟨sb, 3, none⟩ (.int .i64 ((now + 1 : Nat) : Int)) := ⟨_, rfl⟩
  have hcl2 := hSW.clear
  unfold intV at hcl2
  rw [← hW2] at hcl2
  obtain ⟨hS3, hC3⟩ := hcl2
  have HS3 := Lib.hid hS3
  have HC3 := Lib.hid hC3
  have HCW : Hid (ChS B sb ib (.slice va L.length vc) (.slice va 0 vc) w W2) := Lib.hid ((ChS.below hb hB).trans hC3)
  have HG3 := Lib.hid ((hg.below hb).chS hC3 hSW)
  have HO3 := Lib.hid ((hS2.below hb).other hSW hC3 hap)
  have HP3 : Hid (W2.heap[w.heap.size]? = some (.cells #[.bool pb, .bool pe] 87 (0, 0))) := Lib.hid (hC3.blk hSW hp0 (by decide) (by decide))
  have hB2 : B ≤ W2.heap.size := Nat.le_trans hBW hC3.bel.size
  have HCL := Lib.hid hcl
  have HN := Lib.hid hn
  have HL2 := Lib.hid hL2
  have hl26 : L2.length ≤ 1000000 := by have := hS2.un; omega
  obtain ⟨c0, c1, c2, c3, cz⟩ := cells4v hSW.blk
  have f1 := row_freeN hSW.blk 1
  have f3 := row_freeN hSW.blk 3
  unfold intV at c3
  obtain ⟨e0, e1, e2, e3, ez⟩ := cells4v (HO3.out.1).blk
  have hnw : ((now + 1 : Nat) : Int) = (now : Int) + 1 := by omega
  have HWE := Lib.hid hW
  rw [hnw] at hW2
  have HW2 := Lib.hid hW2
  have HAA : Hid (∀ (X : World) (L' : List Nat) (v' : Value) (y : Nat), GrAt B' gb g st X → SetAt B gb sb ib n L' (now + 1) v' X → B ≤ X.heap.size → y < n → Calls Tryz.prog 77 #[.pointer (some ⟨sb, 0, none⟩), .int .i64 (y : Nat), .agg #[.bool pb, .bool pe]] X fun r w' => r = .returned (.tuple #[]) ∧ ∃ v'', SetAt B gb sb ib n (addF g pb pe (g.length + 1) y L') (now + 1) v'' w' ∧ ChS B sb ib v' v'' X w') := Lib.hid (fun X L' v' y h1 h2 h3 h4 => add_all (g.length + 1) B B' gb st sb ib n (now + 1) g L' v' y pb pe X hn hcl hn6 h1 h2 h3 (by have := unm_le n L'; omega) h4)
  clear hS3 hC3 hg hS hS2 hap hSW hb hp0 hW hW2 hcl hn hL2 hnw
  go_enter Tryz.func48, Tryz.ntmps48
  go_upto_region 1 with fail
  rw [← HWE.out]
  go_upto_region 3 with fail
  rw [← HW2.out]
  go_upto_region 4 with fail
  go_loopg [31] L2.length (fun gh s31 X => ∃ i : Nat, gh = L2.length - i ∧ i ≤ L2.length ∧ s31 = .int .i64 (i : Nat) ∧ Aside (∃ vi, SetAt B gb sb ib n ((L2.take i).foldl (eatF g pb pe (c : Nat)) []) (now + 1) vi X ∧ ChS B sb ib (.slice va 0 vc) vi W2 X))
  case atStart => exact ⟨0, by omega, Nat.zero_le _, rfl, _, HS3.out, ChS.refl _ _ _ _ _⟩
  case round =>
    obtain ⟨i, hgh, hi, rfl, hal⟩ := hrel
    obtain ⟨vi, hsi, hci⟩ := hal.out
    have HSI := Lib.hid hsi
    have HCI := Lib.hid hci
    have HGH := Lib.hid hgh
    clear hal hsi hci hgh c0 c1 c2 c3 cz f1 f3 e0 e1 e2 e3 ez
    by_cases hlt : i < L2.length
    · have hlti : (i : Int) < (L2.length : Int) := by omega
      have hi0 : (0 : Int) ≤ (i : Int) := by omega
      have HO := Lib.hid (HO3.out.1.other HS3.out HCI.out HO3.out.2)
      have HG := Lib.hid (HG3.out.chS HCI.out HS3.out)
      have HP : Hid (wr.heap[w.heap.size]? = some (.cells #[.bool pb, .bool pe] 87 (0, 0))) := Lib.hid (HCI.out.blk HS3.out HP3.out (by decide) (by decide))
      have hBr : B ≤ wr.heap.size := Nat.le_trans hB2 HCI.out.bel.size
      obtain ⟨lb, lc, hle, hcell, hlbz⟩ := HO.out.1.elem hlt
      simp only [Value.slice.injEq] at hle
      obtain ⟨rfl, _, rfl⟩ := hle
      obtain ⟨x, hx⟩ : ∃ x, x = L2[i] := ⟨_, rfl⟩
      rw [← hx] at hcell
      have hxn : x < n := by rw [hx]; exact HL2.out _ (List.getElem_mem _)
      have HSN : Hid ((L2.take (i + 1)).foldl (eatF g pb pe (c : Nat)) [] = eatF g pb pe (c : Nat) ((L2.take i).foldl (eatF g pb pe (c : Nat)) []) x) := Lib.hid (by rw [foldl_take _ _ _ _ hlt, ← hx])
      have hxl : x < g.length := by have := HN.out; omega
      obtain ⟨s, hsx⟩ : ∃ s, g[x]? = some s := ⟨_, List.getElem?_eq_getElem hxl⟩
      obtain ⟨g0, cap, cur2, hgc, hgl, hg0, hgp⟩ := HG.out.at hsx
      obtain ⟨q0, q1, q2, q3, qz⟩ := cells4v HSI.out.blk
      have HSX := Lib.hid hsx
      have HG0 := Lib.hid hg0
      have HGP := Lib.hid hgp
      have HL7 : Hid (s.cells.length = 7) := Lib.hid s.cells_len
      have HONE : Hid (s.cells.all (·.oneCell') = true) := Lib.hid (List.all_eq_true.2 s.one)
      have HSP : Hid ((spl zero7.toList 0 s.cells).toArray = s.cells.toArray) := Lib.hid (by rw [spl_all _ _ (by rw [s.cells_len]; rfl)])
      obtain ⟨W4, hW4⟩ : ∃ W4, W4 = wr.alloc (.cells zero7 122) := ⟨_, rfl⟩
      obtain ⟨W5, hW5⟩ : ∃ W5, W5 = W4.setRow wr.heap.size s.cells.toArray := ⟨_, rfl⟩
      have hk4 : W4.heap[wr.heap.size]? = some (.cells zero7 122 (0, 0)) := by rw [hW4]; exact alloc_last wr _
      have hb5 : Below wr.heap.size wr W5 := by rw [hW5, hW4]; exact below_setRow ((Below.refl _ _).alloc (Nat.le_refl _) _) (Nat.le_refl _) _
      have HT5 : Hid (W5.heap[wr.heap.size]? = some (.cells s.cells.toArray 122 (0, 0))) := Lib.hid (by rw [hW5]; exact setRow_selfR hk4 _)
      have HS5 := Lib.hid (HSI.out.below hb5)
      have HC5 : Hid (ChS B sb ib (.slice va 0 vc) vi W2 W5) := Lib.hid (HCI.out.trans (ChS.below hb5 hBr))
      have HG5 := Lib.hid (HG.out.below hb5)
      have HP5 := Lib.hid (blk_below HP.out hb5)
      have hB5 : B ≤ W5.heap.size := Nat.le_trans hBr hb5.size
      have HK4 := Lib.hid hk4
      have HW4 := Lib.hid hW4
      have HW5 := Lib.hid hW5
      have hxg : (x : Int) < (g.length : Int) := by omega
      have hx0 : (0 : Int) ≤ (x : Int) := by omega
      have hz4 : wr.heap.size < W4.heap.size := lt_blkB hk4
      clear hW4 hW5 hk4 hb5 hsx hg0 hgp hx
      unfold zero7 at HW4
      go_upto_region 7 with (first | (refine wpList_load_part rfl 122 _ rfl g0 (x * 7) rfl _ cur2 s.cells (0, 0) _ HG0.out HGP.out Tryz.underlying122 rfl (by rw [HL7.out]; exact st_size) ?_) | (rw [← HW4.out]; refine wpList_store_partC rfl 122 _ _ rfl rfl wr.heap.size 0 s.cells rfl rfl 122 zero7 HK4.out (by rw [HL7.out]; exact st_size) (by rw [HL7.out]; decide) HONE.out s.cells.toArray HSP.out ?_; rw [← HW5.out]) | fail)
      clear hgc hgl q0 q1 q2 q3 qz HG0 HGP HK4 HW4 HW5 HSP HONE HL7 hcell
      have hp5 : W5.cell? ⟨w.heap.size, 0, none⟩ = some (.bool pb) := (Lib.cell_of_heap HP5.out 0).trans rfl
      have hp6 : W5.cell? ⟨w.heap.size, 1, none⟩ = some (.bool pe) := (Lib.cell_of_heap HP5.out 1).trans rfl
      have hpz := lt_blkB HP5.out
      have hto := HT5.out
      cases s with
      | acc =>
        have hto2 : W5.heap[wr.heap.size]? = some (.cells #[.int .i64 0, .int .u64 (sw noP 0 : Nat), .int .u64 (sw noP 1 : Nat), .int .u64 (sw noP 2 : Nat), .int .u64 (sw noP 3 : Nat), .int .i64 (0 : Nat), .int .i64 (0 : Nat)] 122 (0, 0)) := hto
        obtain ⟨t0, t1, t2, t3, t4, t5, t6, tz⟩ := cells7s hto2
        have HE : Hid (eatF g pb pe (c : Nat) ((L2.take i).foldl (eatF g pb pe (c : Nat)) []) x = (L2.take i).foldl (eatF g pb pe (c : Nat)) []) := Lib.hid (eatF_no fun p y e => by rw [HSX.out] at e; cases e)
        clear hto hto2
        go_wp2_with fail
        go_roundg (L2.length - (i + 1))
        case measure => have := HGH.out; omega
        case rel => exact ⟨i + 1, rfl, by omega, by simp, vi, by rw [HSN.out, HE.out]; exact HS5.out, HC5.out⟩
      | beg y =>
        have hto2 : W5.heap[wr.heap.size]? = some (.cells #[.int .i64 2, .int .u64 (sw noP 0 : Nat), .int .u64 (sw noP 1 : Nat), .int .u64 (sw noP 2 : Nat), .int .u64 (sw noP 3 : Nat), .int .i64 (y : Nat), .int .i64 (0 : Nat)] 122 (0, 0)) := hto
        obtain ⟨t0, t1, t2, t3, t4, t5, t6, tz⟩ := cells7s hto2
        have HE : Hid (eatF g pb pe (c : Nat) ((L2.take i).foldl (eatF g pb pe (c : Nat)) []) x = (L2.take i).foldl (eatF g pb pe (c : Nat)) []) := Lib.hid (eatF_no fun p y e => by rw [HSX.out] at e; cases e)
        clear hto hto2
        go_wp2_with fail
        go_roundg (L2.length - (i + 1))
        case measure => have := HGH.out; omega
        case rel => exact ⟨i + 1, rfl, by omega, by simp, vi, by rw [HSN.out, HE.out]; exact HS5.out, HC5.out⟩
      | fin y =>
        have hto2 : W5.heap[wr.heap.size]? = some (.cells #[.int .i64 3, .int .u64 (sw noP 0 : Nat), .int .u64 (sw noP 1 : Nat), .int .u64 (sw noP 2 : Nat), .int .u64 (sw noP 3 : Nat), .int .i64 (y : Nat), .int .i64 (0 : Nat)] 122 (0, 0)) := hto
        obtain ⟨t0, t1, t2, t3, t4, t5, t6, tz⟩ := cells7s hto2
        have HE : Hid (eatF g pb pe (c : Nat) ((L2.take i).foldl (eatF g pb pe (c : Nat)) []) x = (L2.take i).foldl (eatF g pb pe (c : Nat)) []) := Lib.hid (eatF_no fun p y e => by rw [HSX.out] at e; cases e)
        clear hto hto2
        go_wp2_with fail
        go_roundg (L2.length - (i + 1))
        case measure => have := HGH.out; omega
        case rel => exact ⟨i + 1, rfl, by omega, by simp, vi, by rw [HSN.out, HE.out]; exact HS5.out, HC5.out⟩
      | fork y z =>
        have hto2 : W5.heap[wr.heap.size]? = some (.cells #[.int .i64 4, .int .u64 (sw noP 0 : Nat), .int .u64 (sw noP 1 : Nat), .int .u64 (sw noP 2 : Nat), .int .u64 (sw noP 3 : Nat), .int .i64 (y : Nat), .int .i64 (z : Nat)] 122 (0, 0)) := hto
        obtain ⟨t0, t1, t2, t3, t4, t5, t6, tz⟩ := cells7s hto2
        have HE : Hid (eatF g pb pe (c : Nat) ((L2.take i).foldl (eatF g pb pe (c : Nat)) []) x = (L2.take i).foldl (eatF g pb pe (c : Nat)) []) := Lib.hid (eatF_no fun p y e => by rw [HSX.out] at e; cases e)
        clear hto hto2
        go_wp2_with fail
        go_roundg (L2.length - (i + 1))
        case measure => have := HGH.out; omega
        case rel => exact ⟨i + 1, rfl, by omega, by simp, vi, by rw [HSN.out, HE.out]; exact HS5.out, HC5.out⟩
      | eat p y =>
        have hto2 : W5.heap[wr.heap.size]? = some (.cells #[.int .i64 1, .int .u64 (sw p 0 : Nat), .int .u64 (sw p 1 : Nat), .int .u64 (sw p 2 : Nat), .int .u64 (sw p 3 : Nat), .int .i64 (y : Nat), .int .i64 (0 : Nat)] 122 (0, 0)) := hto
        have HTO := Lib.hid hto2
        obtain ⟨t0, t1, t2, t3, t4, t5, t6, tz⟩ := cells7s hto2
        have HE := Lib.hid (eatF_eat (pb := pb) (pe := pe) (c := ((c : Nat) : Int)) (A := (L2.take i).foldl (eatF g pb pe (c : Nat)) []) HSX.out)
        rw [Int.toNat_natCast] at HE
        have hyn : y < n := by have := HCL.out x _ HSX.out y (by simp [St.to]); have := HN.out; omega
        have HHAS := Lib.hid (has_any p c hc W5)
        unfold SV at HHAS
        clear hto hto2
        go_wp2_with fail
        refine HHAS.out.mono ?_
        rintro r W6 ⟨rfl, hb6⟩
        have HS6 := Lib.hid (HS5.out.below hb6)
        have HC6 : Hid (ChS B sb ib (.slice va 0 vc) vi W2 W6) := Lib.hid (HC5.out.trans (ChS.below hb6 hB5))
        have HG6 := Lib.hid (HG5.out.below hb6)
        have hp7 := blk_below HP5.out hb6
        have hto6 := blk_below HTO.out hb6
        have hB6 : B ≤ W6.heap.size := Nat.le_trans hB5 hb6.size
        clear hb6 t0 t1 t2 t3 t4 t5 t6 tz hp5 hp6 hpz
        obtain ⟨t0, t1, t2, t3, t4, t5, t6, tz⟩ := cells7s hto6
        have hp5 : W6.cell? ⟨w.heap.size, 0, none⟩ = some (.bool pb) := (Lib.cell_of_heap hp7 0).trans rfl
        have hp6 : W6.cell? ⟨w.heap.size, 1, none⟩ = some (.bool pe) := (Lib.cell_of_heap hp7 1).trans rfl
        have hpz := lt_blkB hp7
        clear hto6 hp7
        cases hpc : p c with
        | false =>
          rw [hpc, if_neg (by decide)] at HE
          clear hpc
          go_wp2_with fail
          go_roundg (L2.length - (i + 1))
          case measure => have := HGH.out; omega
          case rel => exact ⟨i + 1, rfl, by omega, by simp, vi, by rw [HSN.out, HE.out]; exact HS6.out, HC6.out⟩
        | true =>
          rw [hpc, if_pos rfl] at HE
          clear hpc
          go_wp2_with fail
          refine (HAA.out W6 _ _ y HG6.out HS6.out hB6 hyn).mono ?_
          rintro r W7 ⟨rfl, v7, hs7, hc7⟩
          have HS7 := Lib.hid hs7
          have HC7 := Lib.hid (HC6.out.trans hc7)
          clear hs7 hc7 t0 t1 t2 t3 t4 t5 t6 tz hp5 hp6 hpz
          go_wp2_with fail
          go_roundg (L2.length - (i + 1))
          case measure => have := HGH.out; omega
          case rel => exact ⟨i + 1, rfl, by omega, by simp, v7, by rw [HSN.out, HE.out]; exact HS7.out, HC7.out⟩
    · obtain rfl : i = L2.length := by omega
      have hnl : ¬ (L2.length : Int) < (L2.length : Int) := by omega
      have HE : Hid (L2.take L2.length = L2) := Lib.hid (List.take_length ..)
      go_wp2
      go_end0
      have hs := HSI.out
      rw [HE.out] at hs
      exact ⟨rfl, vi, hs, HCW.out.trans HCI.out⟩
end Go.Proofs.YtcceiblmdjbhjaaGreatDoor
