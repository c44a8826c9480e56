/- The list of variables: collected from their map, sorted by names. -/
import Derived.Test.YthpmkpnndbjflaaGreatDoorAcVi
import Derived.Test.YthpmkpnndbjflaaGreatDoorKVr
import Derived.Test.YthpmkpnndbjflaaGreatDoorShelfG
import Derived.OwnWalkIn
namespace Go.Proofs.YthpmkpnndbjflaaGreatDoor
open Go.RowKit Go.WideMaps Go.Maps Go.Shelf

attribute [local go_sem] Oper.semAt_some

theorem row_cellsV {A A' : World} {row : Option Nat} {b : Nat} {c : Array Value} {T : TypeId} {z : Nat × Nat} (h : A.heap[b]? = some (.cells c T z)) (hg : A.grownBy A' row) (hr : ∀ r, row = some r → ∃ o : Obj, A.heap[r]? = some o ∧ o.isCells = false) : A'.heap[b]? = some (.cells c T z) :=
  (hg.block b (lt_blkA h) (fun e => by
    obtain ⟨o, ho, hoc⟩ := hr b e.symm
    rw [h] at ho
    rw [← Option.some.inj ho] at hoc
    cases hoc)).trans h
theorem own_cellsV {A A' : World} {row : Option Nat} {B : Nat} {v : Value} {n : Nat} {xs : List Value} (h : A.ownsRow B 74 2 v n xs) (hg : A.grownBy A' row) (hr : ∀ r, row = some r → ∃ o : Obj, A.heap[r]? = some o ∧ o.isCells = false) : A'.ownsRow B 74 2 v n xs :=
  h.kept hg (by
    rcases h.2 with ⟨rfl, _⟩ | ⟨g, cap, cur, rfl, _, hgb, _⟩
    · exact Or.inl rfl
    · refine Or.inr fun e => ?_
      obtain ⟨o, ho, hoc⟩ := hr g e.symm
      rw [hgb] at ho
      rw [← Option.some.inj ho] at hoc
      cases hoc)
theorem keeps_belowA {w w' : World} (h : Below w.heap.size w w') : KeepsOthers w w' := ⟨h.size, fun k _ hk _ => (h.block k (lt_blkA hk)).trans hk⟩
/-- What is collected so far. -/
structure CoV (w : World) (L : Vl) (X : World) : Prop where
  box : ∃ v, X.heap[w.heap.size]? = some (.cells #[v] 22 (0, 0)) ∧ X.ownsRow w.heap.size 74 2 v L.length (rowV L)
  bel : Below w.heap.size w X
set_option maxRecDepth 100000 in
set_option maxHeartbeats 4000000 in
theorem appendSeq_vars (Bm mb N : Nat) (D0 : DataW Unit) (vl : Vl) (hris : vl.Ris) (hrep : VRep D0 vl) (hN : N ≤ 1000000) (w : World) (hBm : Bm < w.heap.size) (hm : w.cell? ⟨Bm, 0, none⟩ = some (.map (some mb))) (hown : w.ownsMap Tryz.prog 9 rdV mb N D0) :
    Calls Tryz.prog 103 #[.slice none 0 0, .func (.func 71) #[] #[.pointer (some ⟨Bm, 0, none⟩)]] w fun e W' => (∃ v xs, e = .returned v ∧ xs.Perm vl ∧ W'.ownsRow w.heap.size 74 2 v xs.length (rowV xs)) ∧ Below w.heap.size w W' := by
  have hsz : Maps.size D0 ≤ 1000000 := Nat.le_trans hown.size_le hN
  obtain ⟨i0, z0, hi0, hz0, hz1, hz2, hz3⟩ := var_parts
  refine (callsIn_wide (n := 4)).1 ?_
  refine callsIn_of_wp_marks Tryz.func103 rfl trivial ?_ rfl
  simp only [Tryz.ntmps103, List.size_toArray, List.length_cons, List.length_nil, Nat.reduceAdd, Nat.reduceSub, Array.replicate_succ, Array.replicate_zero, List.push_toArray, List.append_toArray, List.nil_append, List.cons_append]
  gi_wp2
  obtain ⟨W0, hW0⟩ : ∃ W0, w.alloc (.cells #[.slice none 0 0] 22) = W0 := ⟨_, rfl⟩
  have hs0 : W0.heap.size = w.heap.size + 1 := by rw [← hW0]; simp
  have hB0 : W0.heap[w.heap.size]? = some (.cells #[.slice none 0 0] 22 (0, 0)) := by rw [← hW0]; exact World.alloc_heap_new w _
  have hBW : Below w.heap.size w W0 := by rw [← hW0]; exact (Below.refl _ w).alloc (Nat.le_refl _) _
  have hm0 : W0.cell? ⟨Bm, 0, none⟩ = some (.map (some mb)) := (hBW.cell (p := ⟨Bm, 0, none⟩) hBm).trans hm
  have hown0 := own_same hown (hBW.block mb hown.lt)
  rw [hW0]
  refine wpIn_rangeFunc_ownH (α := ByteArray × ByteArray) rfl (by decide) (gf := 71) (lb := #[.pointer (some ⟨Bm, 0, none⟩)]) rfl trivial (enters_of Tryz.func71 (by kernel_rfl) rfl)
    (values_stops Fence.wide _ trivial rfl (by decide) Bm mb N D0 vl hris hrep W0 (by omega) hm0 hown0) walksK_t walksK_b (Below.refl _ _) (fun x => rfl)
    (fun pre W => CoV w pre W)
    (fun _ _ _ => False)
    (fun s X X' row hs hg hr => by
      obtain ⟨v, h1, h2⟩ := hs.box
      exact ⟨⟨v, row_cellsV h1 hg (fun r e => (hr r e).2), own_cellsV h2 hg (fun r e => (hr r e).2)⟩, hs.bel.grown hg hs.bel.size (fun k e => by have := (hr k e).1; omega)⟩)
    (fun _ _ _ _ _ hs _ _ => hs)
    ⟨⟨_, hB0, World.ownsRow_nil _ _ _ _⟩, hBW⟩
    (fun x a' W => ∃ Bx, W.heap[Bx]? = some (.cells #[.string x.1, .string x.2] 74 (0, 0)) ∧ a' = { tmps := #[.slice none 0 0, .func (.func 71) #[] #[.pointer (some ⟨Bm, 0, none⟩)], .pointer (some ⟨w.heap.size, 0, none⟩), undef, .slice none 0 0, .pointer (some ⟨Bx, 0, none⟩), .func (.func 71) #[] #[.pointer (some ⟨Bm, 0, none⟩)], .agg #[.string x.1, .string x.2], undef, undef, undef, undef, undef], defers := [] })
    (fun x a' s X X' row hs hg hr => by obtain ⟨Bx, h1, h2⟩ := hs; exact ⟨Bx, row_cellsV h1 hg (fun r e => (hr r e).2), h2⟩) ?assign ?body ?done ?stop
  case assign =>
    intro l pre x W K hi hK
    have hb : Below W.heap.size W (W.alloc (.cells #[.string x.1, .string x.2] 74)) := (Below.refl _ _).alloc (Nat.le_refl _) _
    obtain ⟨v, h1, h2⟩ := hi.box
    have hK := hK _ (W.alloc (.cells #[.string x.1, .string x.2] 74)) ((keeps_belowA hb).from _) (KeepsWalks.alloc _ _) ⟨⟨v, blk_allocA h1 _, own_belowV h2 hb⟩, hi.bel.alloc hi.bel.size _⟩ ⟨W.heap.size, last_A W _, rfl⟩
    have HK := Lib.hid hK
    clear hK hi h1 h2 hb
    gi_wp2
    exact HK.out
  case body =>
    rintro l pre x a' W hl ⟨lr, hlr⟩ hi ⟨Bx, hBx, rfl⟩ hplt
    obtain ⟨v, h1, h2⟩ := hi.box
    obtain ⟨va, vc, rfl⟩ := own_shapeA h2
    obtain ⟨c0, cf, cz⟩ := cells1A h1
    obtain ⟨q0, q1⟩ : W.cell? ⟨Bx, 0, none⟩ = some (.string x.1) ∧ W.cell? ⟨Bx, 1, none⟩ = some (.string x.2) := ⟨(Lib.cell_of_heap hBx 0).trans rfl, (Lib.cell_of_heap hBx 1).trans rfl⟩
    have qz := lt_blkA hBx
    obtain ⟨p, hp⟩ : ∃ p, p = pre.length := ⟨_, rfl⟩
    have hb : Below W.heap.size W (W.alloc (.cells #[.string x.1, .string x.2] 74)) := (Below.refl _ _).alloc (Nat.le_refl _) _
    have h2a := own_belowV h2 hb
    have h1a := blk_allocA h1 (.cells #[.string x.1, .string x.2] 74)
    have H2A := Lib.hid h2a
    have H1A := Lib.hid h1a
    have HI := Lib.hid hi
    have HPL := Lib.hid hplt
    clear h1 h2 h2a h1a hb hBx hi hplt
    gi_wp2_with (first
      | (gi_at_builtin; refine wpListIn_append_own _ rfl (.tmp 8) (.tmp 10) 22 rfl w.heap.size 74 i0 z0 2 32 Tryz.underlying22 hi0 hz0 hz1 hz2 hz3 (by decide) (.slice va pre.length vc) pre.length (rowV pre) rfl H2A.out ⟨W.heap.size, 0, none⟩ 1 1 (cVr x) rfl rfl (newsV (last_A W _)) (cVr_one x) (by have := HPL.out; unfold maxLen; omega) (by have := HPL.out; omega) (by have := HI.out.bel.size; simp only [World.size_alloc]; omega) ?_
         intro v' w3 hown' hg3 hnil3
         obtain ⟨b', c', rfl⟩ := ownV_row hown' (by omega)
         have h1' := blk_grownA H1A.out hg3 (own_neA H2A.out H1A.out (by decide))
         obtain ⟨c0', cf', cz'⟩ := cells1A h1'
         have H1B := Lib.hid h1'
         have HOW := Lib.hid hown'
         have HG3 := Lib.hid hg3
         clear h1' hown' hg3 hnil3)
      | gi_in)
    have hko : KeepsOthers W (w3.setCell ⟨w.heap.size, 0, none⟩ (.slice (some ⟨b', 0, none⟩) (pre.length + 1) c')) := ((KeepsOthers.alloc W _).trans (KeepsOthers.of_grownBy HG3.out (fun j o hj ho => by
      rcases H2A.out.2 with ⟨e, _⟩ | ⟨g, cap, cur, e, _, hgb, _⟩
      · rw [e] at hj; cases hj
      · rw [e] at hj
        obtain rfl : g = j := by simpa [Value.ownBlock] using hj
        rw [hgb] at ho
        rw [← Option.some.inj ho]
        rfl))).trans (KeepsOthers.setCell _ _ _)
    refine ⟨hko.from _, hko.walks, ⟨_, blk_setA H1B.out, ?_⟩, ?_⟩
    · rw [List.length_append, List.length_singleton, rowV_app]
      simpa [rowV] using own_setA HOW.out H1B.out (by decide) 0 _
    · exact ((HI.out.bel.alloc HI.out.bel.size _).grown HG3.out (by have := HI.out.bel.size; simp only [World.size_alloc]; omega) (fun k e => (H2A.out.lt k e).1)).setCell (p := ⟨w.heap.size, 0, none⟩) (Nat.le_refl _) _
  case done =>
    rintro D xs W hD hpm hi hK
    obtain ⟨v, h1, h2⟩ := hi.box
    obtain ⟨va, vc, rfl⟩ := own_shapeA h2
    obtain ⟨c0, cf, cz⟩ := cells1A h1
    have HI := Lib.hid hi
    have H2 := Lib.hid h2
    have HKD := Lib.hid hK
    clear hi h1 h2 hK
    gi_wp2
    refine ⟨by simp, .inl ⟨_, _, rfl, run_takeDeferred HKD.out, ?_⟩⟩
    refine ⟨.slice va xs.length vc, ?_, ⟨_, xs, rfl, hpm, own_cellsV H2.out (grownBy_putObj' _ D (.deferred none)) (fun r e => by cases e; exact ⟨_, HKD.out, rfl⟩)⟩, HI.out.bel.trans (belowK_b (w := w) (Nat.le_refl _) _ D _ _ (by omega) HKD.out rfl rfl)⟩
    simp [results, Tryz.f103, go_sem]
  case stop =>
    rintro D c pre W _ _ hF _
    exact hF.elim
end Go.Proofs.YthpmkpnndbjflaaGreatDoor
