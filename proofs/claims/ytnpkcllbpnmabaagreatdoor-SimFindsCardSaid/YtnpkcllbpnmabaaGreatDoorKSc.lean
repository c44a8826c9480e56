import Derived.Test.YtnpkcllbpnmabaaGreatDoorKSb
import Derived.Test.YtnpkcllbpnmabaaGreatDoorKSa
import Derived.ScopeJumps
import Derived.WalkMore
import Derived.Deep.CutRange
import Derived.Deep.CutBlock
import Derived.Deep.LoopGhost
namespace Go.Proofs.YtnpkcllbpnmabaaGreatDoor
set_option maxHeartbeats 8000000
set_option maxRecDepth 100000
open Go.RowKit
def hitC (h : Option (Nat × Nat)) (v : Nat) : Array Value :=
 match h with
 | some q => #[.bool true, intZ q.1, intZ q.2, intZ v]
 | none => #[.bool false, intZ 0, intZ 0, intZ v]
def hitV (p : Option (Nat × Nat) × Nat) : Value := .agg (hitC p.1 p.2)
theorem hitC_parts (h : Option (Nat × Nat)) : ∃ s e : Nat, (∀ v : Nat, hitC h v = #[.bool h.isSome, .int .i64 (s : Nat), .int .i64 (e : Nat), .int .i64 (v : Nat)]) ∧ (∀ f, lateT h f = (h.isSome && decide (s < f))) ∧ ∀ v : Nat, hitV (h, v) = .agg #[.bool h.isSome, .int .i64 (s : Nat), .int .i64 (e : Nat), .int .i64 (v : Nat)] := by
 cases h with
 | none => exact ⟨0, 0, fun _ => rfl, fun _ => rfl, fun _ => rfl⟩
 | some q => exact ⟨q.1, q.2, fun _ => rfl, fun _ => by simp [lateT], fun _ => rfl⟩
structure FinT (B rb gb n genM h6 h7 : Nat) (S : Value) (w : World) (R : Option (Nat × Nat) × Nat) (X : World) : Prop where
 run : ∃ gen' A' C' vA' vC', gen' ≤ genM ∧ RunB true B rb gb n S gen' R.2 A' C' vA' vC' X
 ch : ChSm B w X
 hit : X.heap[h7]? = some (.cells (hitC R.1 0) 31 (0, 0))
 res : X.heap[h6]? = some (.cells (hitC none 0) 31 (0, 0))
structure LoopT (B rb gb n gen a wm N h6 h7 st : Nat) (g : List St) (l : List Int) (S : Value) (w : World) (R : Option (Nat × Nat) × Nat) (i : Nat) (T : Th) (h : Option (Nat × Nat)) (vb : Nat) (X : World) : Prop where
 run : ∃ gen' C vT vC, RunB true B rb gb n S gen' (vb + T.length) T C vT vC X ∧ gen' ≤ gen + 1 + (i - a)
 ch : ChSm B w X
 hit : X.heap[h7]? = some (.cells (hitC h 0) 31 (0, 0))
 res : X.heap[h6]? = some (.cells (hitC none 0) 31 (0, 0))
 fill : FillT g (decide (i = 0)) (decide (i = N)) T i
 vbb : vb ≤ (i - a) * 4000
 eq : passR (g, st) l a wm (N + 1 - i) i T h vb = R
structure InT (B rb gb n gen2 vb1 i wm N h6 h7 : Nat) (g : List St) (c : Int) (S : Value) (w : World) (T : Th) (vT : Value) (WR : Th × Option (Nat × Nat) × Bool) (k : Nat) (A : Th) (h : Option (Nat × Nat)) (X : World) : Prop where
 run : ∃ vA, RunB true B rb gb n S gen2 (vb1 + A.length) A T vA vT X
 ch : ChSm B w X
 hit : X.heap[h7]? = some (.cells (hitC h 0) 31 (0, 0))
 res : X.heap[h6]? = some (.cells (hitC none 0) 31 (0, 0))
 eq : walkT g N c wm i (T.drop k) A h = WR
theorem rng112 (u : Nat → Value) : ((List.range 112).map u).toArray = #[u 0, u 1, u 2, u 3, u 4, u 5, u 6, u 7, u 8, u 9, u 10, u 11, u 12, u 13, u 14, u 15, u 16, u 17, u 18, u 19, u 20, u 21, u 22, u 23, u 24, u 25, u 26, u 27, u 28, u 29, u 30, u 31, u 32, u 33, u 34, u 35, u 36, u 37, u 38, u 39, u 40, u 41, u 42, u 43, u 44, u 45, u 46, u 47, u 48, u 49, u 50, u 51, u 52, u 53, u 54, u 55, u 56, u 57, u 58, u 59, u 60, u 61, u 62, u 63, u 64, u 65, u 66, u 67, u 68, u 69, u 70, u 71, u 72, u 73, u 74, u 75, u 76, u 77, u 78, u 79, u 80, u 81, u 82, u 83, u 84, u 85, u 86, u 87, u 88, u 89, u 90, u 91, u 92, u 93, u 94, u 95, u 96, u 97, u 98, u 99, u 100, u 101, u 102, u 103, u 104, u 105, u 106, u 107, u 108, u 109, u 110, u 111] := by rfl
theorem tm112 {tm : Array Value} (h : tm.size = 112) : ∃ u : Nat → Value, tm = #[u 0, u 1, u 2, u 3, u 4, u 5, u 6, u 7, u 8, u 9, u 10, u 11, u 12, u 13, u 14, u 15, u 16, u 17, u 18, u 19, u 20, u 21, u 22, u 23, u 24, u 25, u 26, u 27, u 28, u 29, u 30, u 31, u 32, u 33, u 34, u 35, u 36, u 37, u 38, u 39, u 40, u 41, u 42, u 43, u 44, u 45, u 46, u 47, u 48, u 49, u 50, u 51, u 52, u 53, u 54, u 55, u 56, u 57, u 58, u 59, u 60, u 61, u 62, u 63, u 64, u 65, u 66, u 67, u 68, u 69, u 70, u 71, u 72, u 73, u 74, u 75, u 76, u 77, u 78, u 79, u 80, u 81, u 82, u 83, u 84, u 85, u 86, u 87, u 88, u 89, u 90, u 91, u 92, u 93, u 94, u 95, u 96, u 97, u 98, u 99, u 100, u 101, u 102, u 103, u 104, u 105, u 106, u 107, u 108, u 109, u 110, u 111] ∧ ∀ k v, tm[k]? = some v → u k = v := by
 refine ⟨fun k => tm.getD k undef, ?_, fun k v hk => by simp [Array.getD_eq_getD_getElem?, hk]⟩
 rw [← rng112 (fun k => tm.getD k undef)]
 apply Array.ext
 ·simp [h]
 ·intro i h1 h2
  simp [Array.getD_eq_getD_getElem?, h1]
def JmpT (B rb gb n genM h6 h7 : Nat) (S : Value) (w : World) (R : Option (Nat × Nat) × Nat) (a' : Act) (X : World) : Prop :=
 a'.tmps.size = 112 ∧ a'.tmps[0]? = some (.pointer (some ⟨rb, 0, none⟩)) ∧ a'.tmps[6]? = some (.pointer (some ⟨h6, 0, none⟩)) ∧ a'.tmps[7]? = some (.pointer (some ⟨h7, 0, none⟩)) ∧ a'.defers = [] ∧ FinT B rb gb n genM h6 h7 S w R X
def PassE (B rb gb n genM : Nat) (S : Value) (w w' : World) : Prop := ∃ gen' vis' A' C' vA' vC', gen' ≤ genM ∧ RunB true B rb gb n S gen' vis' A' C' vA' vC' w' ∧ ChSm B w w'
def PassQ (B rb gb n genM : Nat) (S : Value) (w : World) (R : Option (Nat × Nat) × Nat) (r : Ending) (w' : World) : Prop := r = .returned (hitV R) ∧ PassE B rb gb n genM S w w'
theorem gaccepts_any (x : Nat) (w : World) : Calls Tryz.prog 30 #[.int .i64 (x : Nat)] w fun r w' => r = .returned (.bool (decide (x = 0))) ∧ w' = w := by
 have h0 : ((x : Int) == 0) = decide (x = 0) := by rw [Bool.eq_iff_iff]; simp
 go_enter Tryz.func30, Tryz.ntmps30
 go_wp2
 go_ret
 exact ⟨rfl, rfl⟩
theorem gstart_any (B gb st : Nat) (g : List St) (w : World) (h : GrAt B gb g st w) : Calls Tryz.prog 29 #[.pointer (some ⟨gb, 0, none⟩)] w fun r w' => r = .returned (.int .i64 (st : Nat)) ∧ w' = w := by
 obtain ⟨c1, cz⟩ := h.st
 go_enter Tryz.func29, Tryz.ntmps29
 go_wp2
 go_ret
 exact ⟨rfl, rfl⟩
theorem ChSm.setNew {B k i : Nat} {w X : World} {y : Value} (h : ChSm B w X) (hB : B ≤ w.heap.size) (hk : w.heap.size ≤ k) : ChSm B w (X.setCell ⟨k, i, none⟩ y) :=
 ⟨h.bel.setCell (p := ⟨k, i, none⟩) (Nat.le_trans hB hk) _, fun j cs T z h1 h2 h3 => (Below.heap_setCell _ _ _ _ (by have := lt_blkB h3; show j ≠ k; omega)).trans (h.oth j cs T z h1 h2 h3)⟩
theorem th_cells {w : World} {B _m : Nat} {v : Value} {T1 : Th} {k x f : Nat} (h : w.ownsRow B 83 2 v T1.length (rowT T1)) (hk : T1[k]? = some (x, f)) : ∃ tb c, v = .slice (some ⟨tb, 0, none⟩) T1.length c ∧ w.cell? ⟨tb, k * 2, none⟩ = some (.int .i64 (x : Nat)) ∧ w.cell? ⟨tb, k * 2 + 1, none⟩ = some (.int .i64 (f : Nat)) ∧ tb < w.heap.size := by
 have hkl : k < T1.length := (List.getElem?_eq_some_iff.1 hk).1
 obtain ⟨_, ⟨_, hz⟩ | ⟨g, cap, cu, e, hB, hg, hnc, hcm, hcs, htk⟩⟩ := h
 ·omega
 obtain ⟨h1, h2⟩ := rowT_at T1 k _ hk
 refine ⟨g, cap, e, ?_, ?_, lt_blkB hg⟩
 ·rw [Lib.cell_of_heap hg]
  rw [← htk, List.getElem?_take, if_pos (by omega)] at h1
  simpa [intZ] using h1
 ·rw [Lib.cell_of_heap hg]
  rw [← htk, List.getElem?_take, if_pos (by omega)] at h2
  simpa [intZ] using h2
theorem RunB.but {on : Bool} {B rb gb n gen vis k : Nat} {S vA vC : Value} {A C : Th} {w X : World} {cs : Array Value} {z : Nat × Nat} (h : RunB on B rb gb n S gen vis A C vA vC w) (hk : w.heap[k]? = some (.cells cs 31 z)) (hs : ∀ j, j ≠ k → X.heap[j]? = w.heap[j]?) : RunB on B rb gb n S gen vis A C vA vC X := by
 obtain ⟨cur, h1, h2⟩ := h.blk
 have hr : rb ≠ k := fun e => by rw [e, hk] at h1; simp at h1
 have hrow : ∀ {v : Value} {m : Nat} {xs : List Value}, w.ownsRow B 83 2 v m xs → X.ownsRow B 83 2 v m xs := fun hw => own_same hw fun b _ c hc => hs b fun e => by rw [e, hk] at hc; simp at hc
 exact ⟨⟨cur, (hs rb hr).trans h1, h2⟩, hrow h.ra, hrow h.rc, h.ap, h.lo, h.un, h.cn, h.n4⟩
theorem ChSm.but {B k : Nat} {w Y X : World} (h : ChSm B w Y) (hb : Below k Y X) (hk : w.heap.size ≤ k) (hB : B ≤ w.heap.size) (hs : ∀ j, j ≠ k → X.heap[j]? = Y.heap[j]?) : ChSm B w X :=
 ⟨h.bel.trans (hb.mono (Nat.le_trans hB hk)), fun j cs T z h1 h2 h3 => (hs j (by have := lt_blkB h3; omega)).trans (h.oth j cs T z h1 h2 h3)⟩
structure HitS (h7 f i : Nat) (Wd X : World) : Prop where
 bel : Below h7 Wd X
 oth : ∀ j, j ≠ h7 → X.heap[j]? = Wd.heap[j]?
 hit : X.heap[h7]? = some (.cells (hitC (some (f, i)) 0) 31 (0, 0))
theorem hitS_of {h7 f i : Nat} {Y : World} {c0 c1 c2 : Value} (h : Y.heap[h7]? = some (.cells #[c0, c1, c2, .int .i64 (0 : Nat)] 31 (0, 0))) : HitS h7 f i Y (((Y.setCell ⟨h7, 0, none⟩ (.bool true)).setCell ⟨h7, 1, none⟩ (.int .i64 (f : Nat))).setCell ⟨h7, 2, none⟩ (.int .i64 (i : Nat))) :=
 ⟨((((Below.refl _ _).setCell (p := ⟨h7, 0, none⟩) (Nat.le_refl _) _).setCell (p := ⟨h7, 1, none⟩) (Nat.le_refl _) _).setCell (p := ⟨h7, 2, none⟩) (Nat.le_refl _) _), fun _ hj => (Below.heap_setCell _ _ _ _ hj).trans ((Below.heap_setCell _ _ _ _ hj).trans (Below.heap_setCell _ _ _ _ hj)), (blk_setI (blk_setI (blk_setI h))).trans rfl⟩
theorem walkT_late {G : List St} {n i w x f : Nat} {c : Int} {r A : Th} {h : Option (Nat × Nat)} (hl : lateT h f = true) : walkT G n c w i ((x, f) :: r) A h = (A, h, false) := by
 unfold walkT
 rw [if_pos hl]
theorem walkT_end {G : List St} {n i w f : Nat} {c : Int} {r A : Th} {h : Option (Nat × Nat)} (hl : lateT h f = false) : walkT G n c w i ((0, f) :: r) A h = if w = 2 then (A, some (f, i), true) else walkT G n c w i r A (some (f, i)) := by
 conv => lhs; unfold walkT
 rw [if_neg (by rw [hl]; decide), if_pos rfl]
theorem walkT_on {G : List St} {n i w x f : Nat} {c : Int} {r A : Th} {h : Option (Nat × Nat)} (hl : lateT h f = false) (hx : x ≠ 0) : walkT G n c w i ((x, f) :: r) A h = walkT G n c w i r (if i = n then A else eatT G n i c A (x, f)) h := by
 conv => lhs; unfold walkT
 rw [if_neg (by rw [hl]; decide), if_neg hx]
theorem walkT_nil {G : List St} {n i w : Nat} {c : Int} {A : Th} {h : Option (Nat × Nat)} : walkT G n c w i [] A h = (A, h, false) := by unfold walkT; rfl
set_option maxHeartbeats 64000000 in
theorem spass_any (on : Bool) (B B' gb st rb n gen vis a wm N : Nat) (sa : Option Addr) (sc : Nat) (g : List St) (l : List Int) (A C : Th) (vA vC : Value) (w : World) (hn : n = g.length) (hcl : ClG g) (hz0 : ∀ x, g[x]? = some .acc ↔ x = 0) (hst : st < n) (hg : GrAt B' gb g st w) (h : RunB on B rb gb n (.slice sa N sc) gen vis A C vA vC w) (hB : B ≤ w.heap.size) (hlN : l.length = N) (hN : N ≤ 1099511627000) (hgen : gen ≤ 1099511627000000) (hby : Byt l)
  (hcell : ∀ i, i < N → ∃ lb lo, sa = some ⟨lb, lo, none⟩ ∧ lb < B ∧ w.cell? ⟨lb, lo + i, none⟩ = some (.int .u8 (l.getD i 0))) (ha : a ≤ N) (_hwm : wm ≤ 2) :
  Calls Tryz.prog 13 #[.pointer (some ⟨rb, 0, none⟩), .int .i64 (a : Nat), .int .i64 (wm : Nat)] w (PassQ B rb gb n (gen + N + 3) (.slice sa N sc) w (passF (g, st) l a wm)) := by
 obtain ⟨R, hR⟩ : ∃ R, R = passF (g, st) l a wm := ⟨_, rfl⟩
 have hRe : passR (g, st) l a wm (N + 1 - a) a [] none 0 = R := by rw [hR]; unfold passF; rw [if_neg (by omega), hlN]
 rw [← hR]
 clear hR
 obtain ⟨W, hW⟩ : ∃ W, W = (w.alloc (.cells #[.bool false, .int .i64 0, .int .i64 0, .int .i64 0] 31)).alloc (.cells #[.bool false, .int .i64 0, .int .i64 0, .int .i64 0] 31) := ⟨_, rfl⟩
 have hb : Below w.heap.size w W := by rw [hW]; exact ((Below.refl _ _).alloc (Nat.le_refl _) _).alloc (by simp) _
 have H6 : Hid (W.heap[w.heap.size]? = some (.cells (hitC none 0) 31 (0, 0))) := Lib.hid (by rw [hW]; exact blk_alloc (alloc_last w _) _)
 have H7 : Hid (W.heap[w.heap.size + 1]? = some (.cells (hitC none 0) 31 (0, 0))) := Lib.hid (by
  rw [hW]
  have := alloc_last (w.alloc (.cells #[.bool false, .int .i64 0, .int .i64 0, .int .i64 0] 31)) (.cells #[.bool false, .int .i64 0, .int .i64 0, .int .i64 0] 31)
  rw [World.size_alloc] at this
  exact this)
 have HWE := Lib.hid hW
 have HR := Lib.hid (h.below hb)
 have HG := Lib.hid (hg.below hb)
 have HCH : Hid (ChSm B w W) := Lib.hid (ChSm.below hb hB)
 have HLEN := Lib.hid (glen_any B' gb st g W HG.out)
 rw [← hn] at HLEN
 obtain ⟨c0, c1, _, _, _, c5, cz, cf⟩ := HR.out.cells
 have f5 := cf 4005
 have g1 : ((n : Int) == 0) = false := by simp; omega
 have g2 : ¬ (a : Int) < 0 := by omega
 have g3 : ¬ (N : Int) < (a : Int) := by omega
 have g4 : decide ((a : Int) < 0) = false := by simp
 have g5 : decide ((N : Int) < (a : Int)) = false := by simp; omega
 have hn0 : ¬ n = 0 := by omega
 have HN := Lib.hid hn
 have HCL := Lib.hid hcl
 have HZ := Lib.hid hz0
 have HBY := Lib.hid hby
 have HCELL := Lib.hid hcell
 have HLN := Lib.hid hlN
 have hg0 : Hid (GrAt B' gb g st w) := Lib.hid hg
 have HRE := Lib.hid hRe
 clear hW hb h hg hn hcl hz0 hby hcell hlN hRe
 go_enter Tryz.func13, Tryz.ntmps13
 go_wp2
 apply wp_scope_jumps 0 (JmpT B rb gb n (gen + N + 3) w.heap.size (w.heap.size + 1) (.slice sa N sc) w R) (fun _ _ => 0)
 case hf => rfl
 case first =>
  go_upto_region 2 with fail
  rw [← HWE.out]
  go_upto_region 4 with (first | (refine HLEN.out.mono ?_; rintro r w1 ⟨rfl, rfl⟩) | fail)
  go_upto_region 5 with fail
  obtain ⟨X1, hX1⟩ : ∃ X1, X1 = w1.setCell ⟨rb, 4005, none⟩ (.int .i64 0) := ⟨_, rfl⟩
  rw [← hX1]
  obtain ⟨aA, cA, rfl⟩ := own_shapeR HR.out.ra
  obtain ⟨hr1, hc1⟩ := HR.out.vis0 0
  have e0 : intZ 0 = .int .i64 0 := rfl
  rw [e0, ← hX1] at hr1 hc1
  have HTU := Lib.hid (turn_any on B rb gb n gen 0 (.slice sa N sc) A C _ vC X1 (by omega) hr1)
  have HC1 := Lib.hid (HCH.out.trans hc1)
  have HG1 := Lib.hid (HG.out.chSm hc1)
  have H61 := Lib.hid (hc1.blk H6.out (by decide) (by decide))
  have H71 := Lib.hid (hc1.blk H7.out (by decide) (by decide))
  unfold TurnQ at HTU
  clear hX1 hr1 hc1 e0 HR HCH HG H6 H7 HWE HLEN c0 c1 c5 cz cf f5
  go_wp2_with fail
  refine HTU.out.mono ?_
  rintro r X2 ⟨rfl, vC2, hr2, hc2⟩
  have HR2 := Lib.hid hr2
  have HC2 := Lib.hid (HC1.out.trans hc2)
  have HG2 := Lib.hid (HG1.out.chSm hc2)
  have H62 := Lib.hid (hc2.blk H61.out (by decide) (by decide))
  have H72 := Lib.hid (hc2.blk H71.out (by decide) (by decide))
  clear hr2 hc2
  clear HTU HC1 HG1 H61 H71
  have HGG : Hid (∀ X, ChSm B w X → GrAt B' gb g st X) := Lib.hid (fun X hX => hg0.out.chSm hX)
  have HL0 : Hid (LoopT B rb gb n gen a wm N w.heap.size (w.heap.size + 1) st g l (.slice sa N sc) w R a [] none 0 X2) := Lib.hid ⟨⟨gen + 1, A, vC2, _, HR2.out, by omega⟩, HC2.out, H72.out, H62.out, FillT.nil _ _ _ _, Nat.zero_le _, HRE.out⟩
  clear HR2 HC2 HG2 H62 H72 HRE
  go_upto_block 0 with fail
  go_cut [8, 9, 11] from 38 to 105 (fun s8 s9 s11 X => Aside (FinT B rb gb n (gen + N + 3) w.heap.size (w.heap.size + 1) (.slice sa N sc) w R X))
  case first =>
   go_wp2_with fail
   go_loopg [8] (N + 1 - a) (fun gh s8 X => ∃ (i : Nat) (T : Th) (h : Option (Nat × Nat)) (vb : Nat), gh = N + 1 - i ∧ i ≤ N + 1 ∧ a ≤ i ∧ s8 = .int .i64 (i : Nat) ∧ Aside (LoopT B rb gb n gen a wm N w.heap.size (w.heap.size + 1) st g l (.slice sa N sc) w R i T h vb X))
   case atStart => exact ⟨a, [], none, 0, rfl, by omega, Nat.le_refl _, rfl, HL0.out⟩
   case round =>
    obtain ⟨i, T, h, vb, hgh, hi, hai, rfl, hlt⟩ := hrel
    have HL := Lib.hid hlt.out
    have HGH := Lib.hid hgh
    clear hlt hgh HL0
    have hai' : a ≤ i := hai
    by_cases hiN : i ≤ N
    ·have hii : (i : Int) ≤ (N : Int) := by omega
     obtain ⟨gen1, C1, vT1, vC1, hr1, hgen1⟩ := HL.out.run
     obtain ⟨d0, d1, _, _, _, d5, dz, df⟩ := hr1.cells
     have HR1 := Lib.hid hr1
     clear hr1
     go_upto_block 1 with fail
     go_cut [8, 9, 11] from 38 to 105 (fun s8 s9 s11 X => s8 = .int .i64 (i : Nat) ∧ ∃ T' h' vb', Aside (LoopT B rb gb n gen a wm N w.heap.size (w.heap.size + 1) st g l (.slice sa N sc) w R (i + 1) T' h' vb' X))
     case first =>
      obtain ⟨T1, hT1⟩ : ∃ T1, T1 = openT (g, st) N a wm i T h := ⟨_, rfl⟩
      have HF1 : Hid (FillT g (decide (i = 0)) (decide (i = N)) T1 i) := Lib.hid (by rw [hT1]; exact fill_open (G := (g, st)) HCL.out (by have := HN.out; show st < g.length; omega) HL.out.fill)
      have hT1len : T1.length ≤ 4000 := by have := HF1.out.len; have h1 := HR1.out.n4; have := HN.out; omega
      obtain ⟨s, e, hcs, hlate, _⟩ := hitC_parts h
      have HLT := Lib.hid hlate
      have hhb := HL.out.hit
      rw [hcs] at hhb
      have HHB := Lib.hid hhb
      have HCS := Lib.hid hcs
      have q0 : wr.cell? ⟨w.heap.size + 1, 0, none⟩ = some (.bool h.isSome) := (Lib.cell_of_heap hhb 0).trans rfl
      have q1 : wr.cell? ⟨w.heap.size + 1, 1, none⟩ = some (.int .i64 (s : Nat)) := (Lib.cell_of_heap hhb 1).trans rfl
      have qz := lt_blkB hhb
      obtain ⟨bb, hbb⟩ : ∃ bb, bb = decide (i = a ∨ (wm ≠ 0 ∧ h = none)) := ⟨_, rfl⟩
      have HBB := Lib.hid hbb
      obtain ⟨ok, hok⟩ : ∃ ok, ok = h.isSome := ⟨_, rfl⟩
      have HOK : Hid (ok = h.isSome) := Lib.hid hok
      rw [← hok] at q0
      have HTE := Lib.hid hT1
      clear hhb hcs hlate hbb hok hT1
      go_upto_region 9 with fail
      go_cut [58] from 38 to 105 (fun s58 X => s58 = .bool bb ∧ X = wr)
      case first =>
       by_cases hia : i = a
       ·have e1 : ((i : Int) == (a : Int)) = true := by simp; omega
        have e2 : (i : Int) = (a : Int) := by omega
        go_wp2_with fail
        go_meet
        exact ⟨by rw [HBB.out]; simp [hia], rfl⟩
       ·have e1 : ((i : Int) == (a : Int)) = false := by simp; omega
        have e2 : ¬ (i : Int) = (a : Int) := by omega
        by_cases hw0 : wm = 0
        ·have e3 : ((wm : Int) != 0) = false := by simp; omega
         have e4 : (wm : Int) = 0 := by omega
         go_wp2_with fail
         go_meet
         exact ⟨by rw [HBB.out]; simp [hia, hw0], rfl⟩
        ·have e3 : ((wm : Int) != 0) = true := by simp; omega
         have e4 : ¬ (wm : Int) = 0 := by omega
         have e5 : bb = !ok := by
          rw [HBB.out, HOK.out]
          cases h <;> simp [hia, hw0]
         cases ok with
         | true =>
          go_wp2_with fail
          go_meet
          exact ⟨by rw [e5]; rfl, rfl⟩
         | false =>
          go_wp2_with fail
          go_meet
          exact ⟨by rw [e5]; rfl, rfl⟩
      obtain ⟨rfl, rfl⟩ := hcut
      clear q0 q1 qz
      go_upto_if 58 with fail
      go_cut [8] from 38 to 105 (fun s8 X => s8 = .int .i64 (i : Nat) ∧ ∃ vT2, Aside (RunB true B rb gb n (.slice sa N sc) gen1 (vb + T1.length) T1 C1 vT2 vC1 X) ∧ Aside (ChSm B w X) ∧ Aside (X.heap[w.heap.size + 1]? = some (.cells (hitC h 0) 31 (0, 0))) ∧ Aside (X.heap[w.heap.size]? = some (.cells (hitC none 0) 31 (0, 0))))
      case first =>
       cases bb with
       | true =>
        have HTT : Hid (T1 = entT g (decide (i = 0)) (decide (i = N)) st i T) := Lib.hid (by rw [HTE.out]; unfold openT; rw [if_pos (of_decide_eq_true HBB.out.symm)])
        have HST := Lib.hid (gstart_any B' gb st g wc (HGG.out wc HL.out.ch))
        have HEN := Lib.hid (senter_any B B' gb st rb n gen1 vb N st i i sa sc g T C1 vT1 vC1 wc HN.out HCL.out (HGG.out wc HL.out.ch) HR1.out (Nat.le_trans hB HL.out.ch.bel.size) (by have h1 := HL.out.vbb; have h2 : (i - a) * 4000 ≤ 1099511627000 * 4000 := Nat.mul_le_mul_right _ (by omega); omega) hst)
        rw [← HTT.out] at HEN
        unfold EntQ at HEN
        go_wp2_with fail
        refine HST.out.mono ?_
        rintro r wq ⟨rfl, rfl⟩
        go_wp2_with fail
        refine HEN.out.mono ?_
        rintro r X3 ⟨rfl, vT2, h3, h4⟩
        have h5 := HL.out.ch.trans h4
        have h6 := h4.blk HL.out.hit (by decide) (by decide)
        have h7 := h4.blk HL.out.res (by decide) (by decide)
        go_wp2_with fail
        go_meet
        exact ⟨rfl, vT2, h3, h5, h6, h7⟩
       | false =>
        have HTT : Hid (T1 = T) := Lib.hid (by rw [HTE.out]; unfold openT; rw [if_neg (of_decide_eq_false HBB.out.symm)])
        go_wp2_with fail
        go_meet
        exact ⟨rfl, vT1, by rw [HTT.out]; exact HR1.out, HL.out.ch, HL.out.hit, HL.out.res⟩
      obtain ⟨rfl, vT2, hr2, hc2, hh2, hz2⟩ := hcut
      have HR2 := Lib.hid hr2.out
      have HC2 := Lib.hid hc2.out
      have HH2 := Lib.hid hh2.out
      have HZ2 := Lib.hid hz2.out
      clear hr2 hc2 hh2 hz2 d0 d1 d5 dz df HR1
      obtain ⟨aT, cT, rfl⟩ := own_shapeR HR2.out.ra
      have HTU := Lib.hid (turn_any true B rb gb n gen1 (vb + T1.length) (.slice sa N sc) T1 C1 _ vC1 wc (by omega) HR2.out)
      unfold TurnQ at HTU
      go_wp2_with fail
      refine HTU.out.mono ?_
      rintro r X3 ⟨rfl, vA3, hr3, hc3⟩
      have HR3 := Lib.hid hr3
      have HC3 := Lib.hid (HC2.out.trans hc3)
      have HH3 := Lib.hid (hc3.blk HH2.out (by decide) (by decide))
      have HZ3 := Lib.hid (hc3.blk HZ2.out (by decide) (by decide))
      clear hr3 hc3 HTU HR2 HC2 HH2 HZ2
      have HEQ : Hid ((if T1 = [] then (h, vb) else if (walkT g N (l.getD i 0) wm i T1 [] h).2.2 then ((walkT g N (l.getD i 0) wm i T1 [] h).2.1, vb + T1.length + (walkT g N (l.getD i 0) wm i T1 [] h).1.length) else passR (g, st) l a wm (N + 1 - (i + 1)) (i + 1) (walkT g N (l.getD i 0) wm i T1 [] h).1 (walkT g N (l.getD i 0) wm i T1 [] h).2.1 (vb + T1.length)) = R) := Lib.hid (by
       have he := HL.out.eq
       rw [show N + 1 - i = (N + 1 - (i + 1)) + 1 by omega] at he
       unfold passR at he
       rw [HLN.out, ← HTE.out] at he
       exact he)
      by_cases hT0 : T1 = []
      ·have hlen0 : T1.length = 0 := by rw [hT0]; rfl
       have hl0 : ((T1.length : Int) == 0) = true := by simp; exact hT0
       have hl1 : (T1.length : Int) = 0 := by omega
       have HFIN : Hid (FinT B rb gb n (gen + N + 3) w.heap.size (w.heap.size + 1) (.slice sa N sc) w R X3) := Lib.hid (by
        have he := HEQ.out
        rw [if_pos hT0] at he
        rw [← he]
        refine ⟨⟨gen1 + 1, [], T1, vA3, .slice aT T1.length cT, by omega, ?_⟩, HC3.out, HH3.out, HZ3.out⟩
        have := HR3.out
        rw [show vb + T1.length = vb by omega] at this
        exact this)
       clear hT0
       go_wp2_with fail
       go_meet
       exact HFIN.out
      have hl0 : ((T1.length : Int) == 0) = false := by simp; exact hT0
      have hl1 : ¬ (T1.length : Int) = 0 := by
       intro e0
       exact hT0 (List.length_eq_zero_iff.1 (by omega))
      have hT0' : 0 < T1.length := by omega
      obtain ⟨WR, hWR⟩ : ∃ WR, WR = walkT g N (l.getD i 0) wm i T1 [] h := ⟨_, rfl⟩
      have HWR := Lib.hid hWR
      have HEQ2 : Hid ((if WR.2.2 then (WR.2.1, vb + T1.length + WR.1.length) else passR (g, st) l a wm (N + 1 - (i + 1)) (i + 1) WR.1 WR.2.1 (vb + T1.length)) = R) := Lib.hid (by
       have he := HEQ.out
       rw [if_neg hT0, ← hWR] at he
       exact he)
      have HEND := Lib.hid (walk_endT HCL.out HZ.out wm (l.getD i 0) (by omega) HF1.out h)
      rw [← hWR] at HEND
      clear hT0 hWR HEQ
      obtain ⟨c8, hc8⟩ : ∃ c8 : Nat, l.getD i 0 = (c8 : Int) := ⟨(l.getD i 0).toNat, by have := (HBY.out i).1; omega⟩
      have hc256 : c8 < 256 := by have := (HBY.out i).2; omega
      have HC8 := Lib.hid hc8
      clear hc8
      have HIN0 : Hid (InT B rb gb n (gen1 + 1) (vb + T1.length) i wm N w.heap.size (w.heap.size + 1) g (l.getD i 0) (.slice sa N sc) w T1 (.slice aT T1.length cT) WR 0 [] h X3) := Lib.hid ⟨⟨vA3, HR3.out⟩, HC3.out, HH3.out, HZ3.out, HWR.out.symm⟩
      clear HR3 HC3 HH3 HZ3 HWR
      have HL4 : Hid (∀ X vA, RunB true B rb gb n (.slice sa N sc) (gen1 + 1) (vb + T1.length + WR.1.length) WR.1 T1 vA (.slice aT T1.length cT) X → ChSm B w X → X.heap[w.heap.size + 1]? = some (.cells (hitC WR.2.1 0) 31 (0, 0)) → X.heap[w.heap.size]? = some (.cells (hitC none 0) 31 (0, 0)) → WR.2.2 = false → LoopT B rb gb n gen a wm N w.heap.size (w.heap.size + 1) st g l (.slice sa N sc) w R (i + 1) WR.1 WR.2.1 (vb + T1.length) X) := Lib.hid (by
       intro X vA h1 hc4 hh4 hz4 hw4
       have h2 := HEQ2.out
       rw [if_neg (by rw [hw4]; decide)] at h2
       have h3 := fill_walk HF1.out HEND.out
       refine ⟨⟨gen1 + 1, T1, vA, _, h1, by omega⟩, hc4, hh4, hz4, h3.1, ?_, h2⟩
       have h4 := HL.out.vbb
       have h5 : (i + 1 - a) * 4000 = (i - a) * 4000 + 4000 := by rw [show i + 1 - a = (i - a) + 1 by omega, Nat.succ_mul]
       omega)
      have hx1 : (i : Int) + 1 ≤ 9223372036854775807 := by omega
      go_upto_block 2 with fail
      go_wp2_with fail
      go_loopg [75] T1.length (fun gh s75 X => ∃ (k : Nat) (A' : Th) (h' : Option (Nat × Nat)), gh = T1.length - k ∧ k ≤ T1.length ∧ s75 = .int .i64 (k : Nat) ∧ Aside (InT B rb gb n (gen1 + 1) (vb + T1.length) i wm N w.heap.size (w.heap.size + 1) g (l.getD i 0) (.slice sa N sc) w T1 (.slice aT T1.length cT) WR k A' h' X))
      case atStart => exact ⟨0, [], h, rfl, Nat.zero_le _, rfl, HIN0.out⟩
      case round =>
       obtain ⟨k, A', h', hgh2, hk, rfl, hin⟩ := hrel
       have HI := Lib.hid hin.out
       have HGH2 := Lib.hid hgh2
       clear hin hgh2 HIN0 HBB HOK HLT HCS HHB
       by_cases hkl : k < T1.length
       ·have hkl' : (k : Int) < (T1.length : Int) := by omega
        have hk0 : (0 : Int) ≤ (k : Int) := by omega
        obtain ⟨vA4, hr4⟩ := HI.out.run
        obtain ⟨tt, htt⟩ : ∃ tt, T1[k]? = some tt := ⟨_, List.getElem?_eq_getElem hkl⟩
        obtain ⟨x, f⟩ := tt
        have hmem : (x, f) ∈ T1 := List.mem_of_getElem? htt
        have hxn : x < n := by have := HF1.out.lt _ hmem; have := HN.out; omega
        have hfi : f ≤ i := HF1.out.bd _ hmem
        obtain ⟨tb, tc, htv, t0, t1, tz⟩ := th_cells (_m := 0) hr4.rc htt
        simp only [Value.slice.injEq] at htv
        obtain ⟨rfl, _, rfl⟩ := htv
        have HR4 := Lib.hid hr4
        have hdr : T1.drop k = (x, f) :: T1.drop (k + 1) := by
         rw [List.drop_eq_getElem_cons hkl]
         rw [List.getElem?_eq_getElem hkl] at htt
         rw [Option.some.inj htt]
        have HWK : Hid (walkT g N (l.getD i 0) wm i ((x, f) :: T1.drop (k + 1)) A' h' = WR) := Lib.hid (by rw [← hdr]; exact HI.out.eq)
        obtain ⟨s, e, hcs, hlate, _⟩ := hitC_parts h'
        have HLATE := Lib.hid (hlate f)
        have hhb := HI.out.hit
        rw [hcs] at hhb
        obtain ⟨ok, hok⟩ : ∃ ok, ok = h'.isSome := ⟨_, rfl⟩
        rw [← hok] at hhb HLATE
        have HHB := Lib.hid hhb
        obtain ⟨X1, hX1⟩ : ∃ X1, X1 = wr.alloc (.cells #[.int .i64 (x : Nat), .int .i64 (f : Nat)] 83) := ⟨_, rfl⟩
        have hb1 : Below wr.heap.size wr X1 := by rw [hX1]; exact (Below.refl _ _).alloc (Nat.le_refl _) _
        have HX1 := Lib.hid hX1
        have htb1 : X1.heap[wr.heap.size]? = some (.cells #[.int .i64 (x : Nat), .int .i64 (f : Nat)] 83 (0, 0)) := by rw [hX1]; exact alloc_last wr _
        have HTB := Lib.hid htb1
        have hBr : B ≤ wr.heap.size := Nat.le_trans hB HI.out.ch.bel.size
        have HR5 := Lib.hid (hr4.below hb1)
        have HC5 := Lib.hid (HI.out.ch.trans (ChSm.below hb1 hBr))
        have hhb1 := blk_below hhb hb1
        have HHB1 := Lib.hid hhb1
        have HZ5 := Lib.hid (blk_below HI.out.res hb1)
        have HHX := Lib.hid (blk_below HI.out.hit hb1)
        have u0 : X1.cell? ⟨wr.heap.size, 0, none⟩ = some (.int .i64 (x : Nat)) := (Lib.cell_of_heap htb1 0).trans rfl
        have u1 : X1.cell? ⟨wr.heap.size, 1, none⟩ = some (.int .i64 (f : Nat)) := (Lib.cell_of_heap htb1 1).trans rfl
        have uz := lt_blkB htb1
        have q0 : X1.cell? ⟨w.heap.size + 1, 0, none⟩ = some (.bool ok) := (Lib.cell_of_heap hhb1 0).trans rfl
        have q1 : X1.cell? ⟨w.heap.size + 1, 1, none⟩ = some (.int .i64 (s : Nat)) := (Lib.cell_of_heap hhb1 1).trans rfl
        have qz := lt_blkB hhb1
        clear hr4 htt hmem hdr hcs hlate hhb hok hb1 htb1 hhb1 hX1
        go_upto_region 16 with fail
        rw [← HX1.out]
        go_cut [75, 88] from 75 to 105 (fun s75 s88 X => s75 = .int .i64 (k : Nat) ∧ s88 = .bool (lateT h' f) ∧ X = X1)
        case first =>
         cases ok with
         | true =>
          by_cases hsf : s < f
          ·have hsf' : (s : Int) < (f : Int) := by omega
           go_wp2_with fail
           go_meet
           exact ⟨rfl, by rw [HLATE.out]; simp [hsf], rfl⟩
          ·have hsf' : ¬ (s : Int) < (f : Int) := by omega
           go_wp2_with fail
           go_meet
           exact ⟨rfl, by rw [HLATE.out]; simp [hsf], rfl⟩
         | false =>
          go_wp2_with fail
          go_meet
          exact ⟨rfl, by rw [HLATE.out]; rfl, rfl⟩
        obtain ⟨rfl, rfl, rfl⟩ := hcut
        obtain ⟨lt, hlt⟩ : ∃ lt, lt = lateT h' f := ⟨_, rfl⟩
        rw [← hlt]
        have HLT2 := Lib.hid hlt
        clear hlt
        cases lt with
        | true =>
         have HEW : Hid (WR = (A', h', false)) := Lib.hid (by
          have := HWK.out
          rw [walkT_late HLT2.out.symm] at this
          exact this.symm)
         have HMEET : Hid (LoopT B rb gb n gen a wm N w.heap.size (w.heap.size + 1) st g l (.slice sa N sc) w R (i + 1) WR.1 WR.2.1 (vb + T1.length) wc) := Lib.hid (HL4.out wc vA4 (by rw [HEW.out]; exact HR5.out) HC5.out (by rw [HEW.out]; exact HHX.out) HZ5.out (by rw [HEW.out]))
         go_wp2_with fail
         go_meet
         exact ⟨rfl, WR.1, WR.2.1, vb + T1.length, HMEET.out⟩
        | false =>
         by_cases hx0 : x = 0
         ·subst hx0
          have HWE2 : Hid ((if wm = 2 then (A', some (f, i), true) else walkT g N (l.getD i 0) wm i (T1.drop (k + 1)) A' (some (f, i))) = WR) := Lib.hid (by rw [← HWK.out, walkT_end HLT2.out.symm])
          go_upto_region 19 with (first | (go_at_call 30; refine (gaccepts_any 0 _).mono ?_; rintro r wq ⟨rfl, rfl⟩) | fail)
          have HHC : Hid (wq.heap[w.heap.size + 1]? = some (.cells (hitC h' 0) 31 (0, 0))) := Lib.hid HHX.out
          have y0 : wq.drew.cell? ⟨wr.heap.size, 1, none⟩ = some (.int .i64 (f : Nat)) := u1
          have yz : wr.heap.size < wq.drew.heap.size := uz
          have z0 : wq.drew.cell? ⟨w.heap.size + 1, 0, none⟩ = some (.bool ok) := q0
          have zz : w.heap.size + 1 < wq.drew.heap.size := qz
          have hne : wr.heap.size ≠ w.heap.size + 1 := by intro e9; have := HTB.out; rw [e9, HHB1.out] at this; simp at this
          have hne2 : ¬ w.heap.size + 1 = wr.heap.size := fun e9 => hne e9.symm
          have zf : wq.drew.frozen? ⟨w.heap.size + 1, 0, none⟩ = false := row_freeN (X := wq.drew) HHB1.out 0
          have zf1 : wq.drew.frozen? ⟨w.heap.size + 1, 1, none⟩ = false := row_freeN (X := wq.drew) HHB1.out 1
          have zf2 : wq.drew.frozen? ⟨w.heap.size + 1, 2, none⟩ = false := row_freeN (X := wq.drew) HHB1.out 2
          have q2 : wq.cell? ⟨w.heap.size + 1, 2, none⟩ = some (.int .i64 (e : Nat)) := (Lib.cell_of_heap HHB1.out 2).trans rfl
          have zg : wq.frozen? ⟨w.heap.size + 1, 0, none⟩ = false := zf
          have zg1 : wq.frozen? ⟨w.heap.size + 1, 1, none⟩ = false := zf1
          have zg2 : wq.frozen? ⟨w.heap.size + 1, 2, none⟩ = false := zf2
          go_region
          go_upto_region 20 with fail
          obtain ⟨X5, hX5⟩ : ∃ X5, X5 = (((wq.setCell ⟨w.heap.size + 1, 0, none⟩ (.bool true)).setCell ⟨w.heap.size + 1, 1, none⟩ (.int .i64 (f : Nat))).setCell ⟨w.heap.size + 1, 2, none⟩ (.int .i64 (i : Nat))).drew := ⟨_, rfl⟩
          rw [← hX5]
          have hhs := hitS_of (f := f) (i := i) HHB1.out
          have hoth : ∀ j, j ≠ w.heap.size + 1 → X5.heap[j]? = wq.heap[j]? := fun j hj => by rw [hX5]; exact hhs.oth j hj
          have hhit : X5.heap[w.heap.size + 1]? = some (.cells (hitC (some (f, i)) 0) 31 (0, 0)) := by rw [hX5]; exact hhs.hit
          have hbl : Below (w.heap.size + 1) wq X5 := by rw [hX5]; exact hhs.bel.drew
          have HR6 := Lib.hid (HR5.out.but HHX.out hoth)
          have HC6 := Lib.hid (HC5.out.but hbl (Nat.le_succ _) hB hoth)
          have HH6 := Lib.hid hhit
          have HZ6 := Lib.hid ((hoth w.heap.size (by omega)).trans HZ5.out)
          clear hX5 hhs hoth hhit hbl y0 yz z0 zz hne hne2 zf zf1 zf2 q2 zg zg1 zg2 u0 u1 uz q0 q1 qz
          by_cases hw2 : wm = 2
          ·have hw2' : ((wm : Int) == 2) = true := by simp; omega
           have hw2'' : (wm : Int) = 2 := by omega
           have HWR2 : Hid (WR = (A', some (f, i), true)) := Lib.hid (by
            have := HWE2.out
            rw [if_pos hw2] at this
            exact this.symm)
           have HFIN : Hid (FinT B rb gb n (gen + N + 3) w.heap.size (w.heap.size + 1) (.slice sa N sc) w R X5) := Lib.hid (by
            have h2 := HEQ2.out
            rw [HWR2.out, if_pos rfl] at h2
            rw [← h2]
            exact ⟨⟨gen1 + 1, A', T1, vA4, _, by omega, HR6.out⟩, HC6.out, HH6.out, HZ6.out⟩)
           go_wp2_with fail
           go_step3
           exact ⟨rfl, rfl, rfl, rfl, rfl, rfl, HFIN.out⟩
          ·have hw2' : ((wm : Int) == 2) = false := by simp; omega
           have hw2'' : ¬ (wm : Int) = 2 := by omega
           have HIN2 : Hid (InT B rb gb n (gen1 + 1) (vb + T1.length) i wm N w.heap.size (w.heap.size + 1) g (l.getD i 0) (.slice sa N sc) w T1 (.slice (some ⟨tb, 0, none⟩) T1.length cT) WR (k + 1) A' (some (f, i)) X5) := Lib.hid ⟨⟨vA4, HR6.out⟩, HC6.out, HH6.out, HZ6.out, by
            have := HWE2.out
            rw [if_neg hw2] at this
            exact this⟩
           go_wp2_with fail
           go_roundg (T1.length - (k + 1))
           case measure => have := HGH2.out; omega
           case rel => exact ⟨k + 1, A', some (f, i), rfl, by omega, by simp, HIN2.out⟩
         ·have hxn0 : ((x : Int) == 0) = false := by simp; omega
          have HACC := Lib.hid (gaccepts_any x wc)
          have hdx : decide (x = 0) = false := by simp [hx0]
          rw [hdx] at HACC
          have HWE2 : Hid (walkT g N (l.getD i 0) wm i (T1.drop (k + 1)) (if i = N then A' else eatT g N i (c8 : Nat) A' (x, f)) h' = WR) := Lib.hid (by rw [← HWK.out, walkT_on HLT2.out.symm hx0, ← HC8.out])
          have HFO := Lib.hid (sfollow_any B B' gb st rb n (gen1 + 1) (vb + T1.length) N x f i c8 sa sc g A' T1 vA4 (.slice (some ⟨tb, 0, none⟩) T1.length cT) wc HN.out HCL.out (HGG.out wc HC5.out) HR5.out (Nat.le_trans hB HC5.out.bel.size) (by have h1 := HL.out.vbb; have h2 : (i - a) * 4000 ≤ 1099511627000 * 4000 := Nat.mul_le_mul_right _ (by omega); omega) hxn (by omega) (by omega) (fun hiN' => by
           obtain ⟨lb, lo, h1, h2, h3⟩ := HCELL.out i hiN'
           refine ⟨lb, lo, h1, h2, ?_, hc256⟩
           rw [HC8.out] at h3
           exact (HC5.out.bel.cell (show (⟨lb, lo + i, none⟩ : Addr).block < B from h2)).trans h3))
          unfold EntQ at HFO
          generalize (if i = N then A' else eatT g N i (c8 : Nat) A' (x, f)) = A2 at *
          go_wp2_with fail
          refine HACC.out.mono ?_
          rintro r wq ⟨rfl, rfl⟩
          go_wp2_with fail
          refine HFO.out.mono ?_
          rintro r X4 ⟨rfl, vA5, hr6, hc6⟩
          have HIN2 : Hid (InT B rb gb n (gen1 + 1) (vb + T1.length) i wm N w.heap.size (w.heap.size + 1) g (l.getD i 0) (.slice sa N sc) w T1 (.slice (some ⟨tb, 0, none⟩) T1.length cT) WR (k + 1) A2 h' X4) := Lib.hid ⟨⟨vA5, hr6⟩, HC5.out.trans hc6, hc6.blk HHX.out (by decide) (by decide), hc6.blk HZ5.out (by decide) (by decide), HWE2.out⟩
          clear hr6 hc6 u0 u1 uz q0 q1 qz
          go_wp2_with fail
          go_roundg (T1.length - (k + 1))
          case measure => have := HGH2.out; omega
          case rel => exact ⟨k + 1, A2, h', rfl, by omega, by simp, HIN2.out⟩
       ·obtain rfl : k = T1.length := by omega
        have hnk : ¬ (T1.length : Int) < (T1.length : Int) := by omega
        have HEW : Hid (WR = (A', h', false)) := Lib.hid (by
         have := HI.out.eq
         rw [List.drop_length, walkT_nil] at this
         exact this.symm)
        obtain ⟨vA4, hr4⟩ := HI.out.run
        have HMEET : Hid (LoopT B rb gb n gen a wm N w.heap.size (w.heap.size + 1) st g l (.slice sa N sc) w R (i + 1) WR.1 WR.2.1 (vb + T1.length) wr) := Lib.hid (HL4.out wr vA4 (by rw [HEW.out]; exact hr4) HI.out.ch (by rw [HEW.out]; exact HI.out.hit) HI.out.res (by rw [HEW.out]))
        clear hr4
        go_wp2_with fail
        go_meet
        exact ⟨rfl, WR.1, WR.2.1, vb + T1.length, HMEET.out⟩
     obtain ⟨rfl, T', h', vb', hl4⟩ := hcut
     have HL4 := Lib.hid hl4.out
     clear hl4
     have hi1 : (i : Int) + 1 ≤ 9223372036854775807 := by omega
     go_wp2_with fail
     go_roundg (N + 1 - (i + 1))
     case measure => have := HGH.out; omega
     case rel => exact ⟨i + 1, T', h', vb', rfl, by omega, by omega, by simp, HL4.out⟩
    ·have hii : ¬ (i : Int) ≤ (N : Int) := by omega
     obtain ⟨gen1, C1, vT1, vC1, hr1, hgen1⟩ := HL.out.run
     obtain ⟨d0, d1, _, _, _, d5, dz, df⟩ := hr1.cells
     have HFIN : Hid (FinT B rb gb n (gen + N + 3) w.heap.size (w.heap.size + 1) (.slice sa N sc) w R wr) := Lib.hid (by
      have he := HL.out.eq
      rw [show N + 1 - i = 0 by omega] at he
      have he2 : R = (h, vb + T.length) := he.symm
      rw [he2]
      exact ⟨⟨gen1, T, C1, vT1, vC1, by omega, hr1⟩, HL.out.ch, HL.out.hit, HL.out.res⟩)
     clear hr1
     go_wp2_with fail
     go_meet
     exact HFIN.out
  have HF := Lib.hid hcut.out
  clear hcut HL0
  obtain ⟨gen', A2, C2, vA2, vC2', hgen', hrr⟩ := HF.out.run
  obtain ⟨_, _, _, _, _, d5, dz, _⟩ := hrr.cells
  have HRR := Lib.hid hrr
  obtain ⟨hh, v⟩ := R
  obtain ⟨s0, e0, hcs0, _, hval⟩ := hitC_parts hh
  have hh7 := HF.out.hit
  rw [hcs0] at hh7
  have hh6 := HF.out.res
  have q0 : wc.cell? ⟨w.heap.size + 1, 0, none⟩ = some (.bool hh.isSome) := (Lib.cell_of_heap hh7 0).trans rfl
  have q1 : wc.cell? ⟨w.heap.size + 1, 1, none⟩ = some (.int .i64 (s0 : Nat)) := (Lib.cell_of_heap hh7 1).trans rfl
  have q2 : wc.cell? ⟨w.heap.size + 1, 2, none⟩ = some (.int .i64 (e0 : Nat)) := (Lib.cell_of_heap hh7 2).trans rfl
  have q3 : wc.cell? ⟨w.heap.size + 1, 3, none⟩ = some (.int .i64 0) := (Lib.cell_of_heap hh7 3).trans rfl
  have f3 : wc.frozen? ⟨w.heap.size + 1, 3, none⟩ = false := row_freeN hh7 3
  have qz := lt_blkB hh7
  have r0 : wc.cell? ⟨w.heap.size, 0, none⟩ = some (.bool false) := (Lib.cell_of_heap hh6 0).trans rfl
  have r1 : wc.cell? ⟨w.heap.size, 1, none⟩ = some (.int .i64 0) := (Lib.cell_of_heap hh6 1).trans rfl
  have r2 : wc.cell? ⟨w.heap.size, 2, none⟩ = some (.int .i64 0) := (Lib.cell_of_heap hh6 2).trans rfl
  have r3 : wc.cell? ⟨w.heap.size, 3, none⟩ = some (.int .i64 0) := (Lib.cell_of_heap hh6 3).trans rfl
  have g0 : wc.frozen? ⟨w.heap.size, 0, none⟩ = false := row_freeN hh6 0
  have g1 : wc.frozen? ⟨w.heap.size, 1, none⟩ = false := row_freeN hh6 1
  have g2 : wc.frozen? ⟨w.heap.size, 2, none⟩ = false := row_freeN hh6 2
  have g3 : wc.frozen? ⟨w.heap.size, 3, none⟩ = false := row_freeN hh6 3
  have rz := lt_blkB hh6
  have HH7 := Lib.hid hh7
  have HVAL := Lib.hid (hval v)
  have HH6 := Lib.hid hh6
  clear hrr hh7 hh6 hcs0 hval
  dsimp only at d5
  go_wp2
  go_step3
  go_wp2
  have HX : Hid (PassE B rb gb n (gen + N + 3) (.slice sa N sc) w (((((wc.setCell ⟨w.heap.size + 1, 3, none⟩ (.int .i64 (v : Nat))).setCell ⟨w.heap.size, 0, none⟩ (.bool hh.isSome)).setCell ⟨w.heap.size, 1, none⟩ (.int .i64 (s0 : Nat))).setCell ⟨w.heap.size, 2, none⟩ (.int .i64 (e0 : Nat))).setCell ⟨w.heap.size, 3, none⟩ (.int .i64 (v : Nat))) ∧ (((((wc.setCell ⟨w.heap.size + 1, 3, none⟩ (.int .i64 (v : Nat))).setCell ⟨w.heap.size, 0, none⟩ (.bool hh.isSome)).setCell ⟨w.heap.size, 1, none⟩ (.int .i64 (s0 : Nat))).setCell ⟨w.heap.size, 2, none⟩ (.int .i64 (e0 : Nat))).setCell ⟨w.heap.size, 3, none⟩ (.int .i64 (v : Nat))).heap[w.heap.size]? = some (.cells #[.bool hh.isSome, .int .i64 (s0 : Nat), .int .i64 (e0 : Nat), .int .i64 (v : Nat)] 31 (0, 0))) := Lib.hid (by
   have hn7 : w.heap.size ≠ w.heap.size + 1 := by omega
   have b6 : (wc.setCell ⟨w.heap.size + 1, 3, none⟩ (.int .i64 (v : Nat))).heap[w.heap.size]? = some (.cells (hitC none 0) 31 (0, 0)) := (Below.heap_setCell _ _ _ _ hn7).trans HH6.out
   have a1 := HRR.out.but HH7.out (X := wc.setCell ⟨w.heap.size + 1, 3, none⟩ (.int .i64 (v : Nat))) (fun j hj => Below.heap_setCell _ _ _ _ hj)
   have a2 := a1.but b6 (X := ((((wc.setCell ⟨w.heap.size + 1, 3, none⟩ (.int .i64 (v : Nat))).setCell ⟨w.heap.size, 0, none⟩ (.bool hh.isSome)).setCell ⟨w.heap.size, 1, none⟩ (.int .i64 (s0 : Nat))).setCell ⟨w.heap.size, 2, none⟩ (.int .i64 (e0 : Nat))).setCell ⟨w.heap.size, 3, none⟩ (.int .i64 (v : Nat))) (fun j hj => (Below.heap_setCell _ _ _ _ hj).trans ((Below.heap_setCell _ _ _ _ hj).trans ((Below.heap_setCell _ _ _ _ hj).trans (Below.heap_setCell _ _ _ _ hj))))
   refine ⟨⟨gen', _, A2, C2, vA2, vC2', hgen', a2, ?_⟩, (blk_setI (blk_setI (blk_setI (blk_setI b6)))).trans rfl⟩
   exact ChSm.setNew (ChSm.setNew (ChSm.setNew (ChSm.setNew (ChSm.setNew HF.out.ch hB (Nat.le_succ _)) hB (Nat.le_refl _)) hB (Nat.le_refl _)) hB (Nat.le_refl _)) hB (Nat.le_refl _))
  simp only [Exit.jump]
  generalize ((((wc.setCell ⟨w.heap.size + 1, 3, none⟩ (.int .i64 (v : Nat))).setCell ⟨w.heap.size, 0, none⟩ (.bool hh.isSome)).setCell ⟨w.heap.size, 1, none⟩ (.int .i64 (s0 : Nat))).setCell ⟨w.heap.size, 2, none⟩ (.int .i64 (e0 : Nat))).setCell ⟨w.heap.size, 3, none⟩ (.int .i64 (v : Nat)) = X at *
  have hbx := HX.out.2
  have m0 : X.cell? ⟨w.heap.size, 0, none⟩ = some (.bool hh.isSome) := (Lib.cell_of_heap hbx 0).trans rfl
  have m1 : X.cell? ⟨w.heap.size, 1, none⟩ = some (.int .i64 (s0 : Nat)) := (Lib.cell_of_heap hbx 1).trans rfl
  have m2 : X.cell? ⟨w.heap.size, 2, none⟩ = some (.int .i64 (e0 : Nat)) := (Lib.cell_of_heap hbx 2).trans rfl
  have m3 : X.cell? ⟨w.heap.size, 3, none⟩ = some (.int .i64 (v : Nat)) := (Lib.cell_of_heap hbx 3).trans rfl
  refine bodyPost_ret (v := .agg #[.bool hh.isSome, .int .i64 (s0 : Nat), .int .i64 (e0 : Nat), .int .i64 (v : Nat)]) (by simp [results, Tryz.results13, go_sem, m0, m1, m2, m3]) rfl ?_
  exact ⟨by rw [HVAL.out], HX.out.1⟩
 case pass =>
  rintro ⟨tm, df⟩ wc ⟨hsz, h0, h6, h7, hdf, hfin⟩
  have hdf' : df = [] := hdf
  subst hdf'
  obtain ⟨u, htm, hu⟩ := tm112 hsz
  have k0 := hu 0 _ h0
  have k6 := hu 6 _ h6
  have k7 := hu 7 _ h7
  rw [k0, k6, k7] at htm
  clear hu hsz h0 h6 h7 hdf k0 k6 k7
  subst htm
  have HF := Lib.hid hfin
  clear hfin
  obtain ⟨gen', A2, C2, vA2, vC2', hgen', hrr⟩ := HF.out.run
  obtain ⟨_, _, _, _, _, d5, dz, _⟩ := hrr.cells
  have HRR := Lib.hid hrr
  obtain ⟨hh, v⟩ := R
  obtain ⟨s0, e0, hcs0, _, hval⟩ := hitC_parts hh
  have hh7 := HF.out.hit
  rw [hcs0] at hh7
  have hh6 := HF.out.res
  have q0 : wc.cell? ⟨w.heap.size + 1, 0, none⟩ = some (.bool hh.isSome) := (Lib.cell_of_heap hh7 0).trans rfl
  have q1 : wc.cell? ⟨w.heap.size + 1, 1, none⟩ = some (.int .i64 (s0 : Nat)) := (Lib.cell_of_heap hh7 1).trans rfl
  have q2 : wc.cell? ⟨w.heap.size + 1, 2, none⟩ = some (.int .i64 (e0 : Nat)) := (Lib.cell_of_heap hh7 2).trans rfl
  have q3 : wc.cell? ⟨w.heap.size + 1, 3, none⟩ = some (.int .i64 0) := (Lib.cell_of_heap hh7 3).trans rfl
  have f3 : wc.frozen? ⟨w.heap.size + 1, 3, none⟩ = false := row_freeN hh7 3
  have qz := lt_blkB hh7
  have r0 : wc.cell? ⟨w.heap.size, 0, none⟩ = some (.bool false) := (Lib.cell_of_heap hh6 0).trans rfl
  have r1 : wc.cell? ⟨w.heap.size, 1, none⟩ = some (.int .i64 0) := (Lib.cell_of_heap hh6 1).trans rfl
  have r2 : wc.cell? ⟨w.heap.size, 2, none⟩ = some (.int .i64 0) := (Lib.cell_of_heap hh6 2).trans rfl
  have r3 : wc.cell? ⟨w.heap.size, 3, none⟩ = some (.int .i64 0) := (Lib.cell_of_heap hh6 3).trans rfl
  have g0 : wc.frozen? ⟨w.heap.size, 0, none⟩ = false := row_freeN hh6 0
  have g1 : wc.frozen? ⟨w.heap.size, 1, none⟩ = false := row_freeN hh6 1
  have g2 : wc.frozen? ⟨w.heap.size, 2, none⟩ = false := row_freeN hh6 2
  have g3 : wc.frozen? ⟨w.heap.size, 3, none⟩ = false := row_freeN hh6 3
  have rz := lt_blkB hh6
  have HH7 := Lib.hid hh7
  have HVAL := Lib.hid (hval v)
  have HH6 := Lib.hid hh6
  clear hrr hh7 hh6 hcs0 hval
  dsimp only at d5
  go_wp2
  have HX : Hid (PassE B rb gb n (gen + N + 3) (.slice sa N sc) w (((((wc.setCell ⟨w.heap.size + 1, 3, none⟩ (.int .i64 (v : Nat))).setCell ⟨w.heap.size, 0, none⟩ (.bool hh.isSome)).setCell ⟨w.heap.size, 1, none⟩ (.int .i64 (s0 : Nat))).setCell ⟨w.heap.size, 2, none⟩ (.int .i64 (e0 : Nat))).setCell ⟨w.heap.size, 3, none⟩ (.int .i64 (v : Nat))) ∧ (((((wc.setCell ⟨w.heap.size + 1, 3, none⟩ (.int .i64 (v : Nat))).setCell ⟨w.heap.size, 0, none⟩ (.bool hh.isSome)).setCell ⟨w.heap.size, 1, none⟩ (.int .i64 (s0 : Nat))).setCell ⟨w.heap.size, 2, none⟩ (.int .i64 (e0 : Nat))).setCell ⟨w.heap.size, 3, none⟩ (.int .i64 (v : Nat))).heap[w.heap.size]? = some (.cells #[.bool hh.isSome, .int .i64 (s0 : Nat), .int .i64 (e0 : Nat), .int .i64 (v : Nat)] 31 (0, 0))) := Lib.hid (by
   have hn7 : w.heap.size ≠ w.heap.size + 1 := by omega
   have b6 : (wc.setCell ⟨w.heap.size + 1, 3, none⟩ (.int .i64 (v : Nat))).heap[w.heap.size]? = some (.cells (hitC none 0) 31 (0, 0)) := (Below.heap_setCell _ _ _ _ hn7).trans HH6.out
   have a1 := HRR.out.but HH7.out (X := wc.setCell ⟨w.heap.size + 1, 3, none⟩ (.int .i64 (v : Nat))) (fun j hj => Below.heap_setCell _ _ _ _ hj)
   have a2 := a1.but b6 (X := ((((wc.setCell ⟨w.heap.size + 1, 3, none⟩ (.int .i64 (v : Nat))).setCell ⟨w.heap.size, 0, none⟩ (.bool hh.isSome)).setCell ⟨w.heap.size, 1, none⟩ (.int .i64 (s0 : Nat))).setCell ⟨w.heap.size, 2, none⟩ (.int .i64 (e0 : Nat))).setCell ⟨w.heap.size, 3, none⟩ (.int .i64 (v : Nat))) (fun j hj => (Below.heap_setCell _ _ _ _ hj).trans ((Below.heap_setCell _ _ _ _ hj).trans ((Below.heap_setCell _ _ _ _ hj).trans (Below.heap_setCell _ _ _ _ hj))))
   refine ⟨⟨gen', _, A2, C2, vA2, vC2', hgen', a2, ?_⟩, (blk_setI (blk_setI (blk_setI (blk_setI b6)))).trans rfl⟩
   exact ChSm.setNew (ChSm.setNew (ChSm.setNew (ChSm.setNew (ChSm.setNew HF.out.ch hB (Nat.le_succ _)) hB (Nat.le_refl _)) hB (Nat.le_refl _)) hB (Nat.le_refl _)) hB (Nat.le_refl _))
  simp only [Exit.jump]
  generalize ((((wc.setCell ⟨w.heap.size + 1, 3, none⟩ (.int .i64 (v : Nat))).setCell ⟨w.heap.size, 0, none⟩ (.bool hh.isSome)).setCell ⟨w.heap.size, 1, none⟩ (.int .i64 (s0 : Nat))).setCell ⟨w.heap.size, 2, none⟩ (.int .i64 (e0 : Nat))).setCell ⟨w.heap.size, 3, none⟩ (.int .i64 (v : Nat)) = X at *
  have hbx := HX.out.2
  have m0 : X.cell? ⟨w.heap.size, 0, none⟩ = some (.bool hh.isSome) := (Lib.cell_of_heap hbx 0).trans rfl
  have m1 : X.cell? ⟨w.heap.size, 1, none⟩ = some (.int .i64 (s0 : Nat)) := (Lib.cell_of_heap hbx 1).trans rfl
  have m2 : X.cell? ⟨w.heap.size, 2, none⟩ = some (.int .i64 (e0 : Nat)) := (Lib.cell_of_heap hbx 2).trans rfl
  have m3 : X.cell? ⟨w.heap.size, 3, none⟩ = some (.int .i64 (v : Nat)) := (Lib.cell_of_heap hbx 3).trans rfl
  refine bodyPost_ret (v := .agg #[.bool hh.isSome, .int .i64 (s0 : Nat), .int .i64 (e0 : Nat), .int .i64 (v : Nat)]) (by simp [results, Tryz.results13, go_sem, m0, m1, m2, m3]) rfl ?_
  exact ⟨by rw [HVAL.out], HX.out.1⟩
def runCells (gp S : Value) : Array Value := (gp :: S :: .slice none 0 0 :: .slice none 0 0 :: List.replicate 4002 (.int .i64 0)).toArray
theorem runCells_at (gp S : Value) (k : Nat) (hk : k < 4002) : (runCells gp S)[4 + k]? = some (.int .i64 0) := by
 unfold runCells
 rw [List.getElem?_toArray, show 4 + k = k + 1 + 1 + 1 + 1 by omega, List.getElem?_cons_succ, List.getElem?_cons_succ, List.getElem?_cons_succ, List.getElem?_cons_succ, List.getElem?_replicate, if_pos hk]
theorem runC_new (gb n : Nat) (S : Value) : RunC false gb n S 0 0 [] (.slice none 0 0) (.slice none 0 0) (runCells (.pointer (some ⟨gb, 0, none⟩)) S) where
 sz := by unfold runCells; rw [List.size_toArray, List.length_cons, List.length_cons, List.length_cons, List.length_cons, List.length_replicate]
 g := by unfold runCells; rw [List.getElem?_toArray]; rfl
 s := by unfold runCells; rw [List.getElem?_toArray]; rfl
 a := by unfold runCells; rw [List.getElem?_toArray]; rfl
 c := by unfold runCells; rw [List.getElem?_toArray]; rfl
 t := runCells_at _ _ 0 (by omega)
 v := runCells_at _ _ 4001 (by omega)
 m := fun x hx => ⟨0, by rw [show 5 + x = 4 + (1 + x) by omega]; exact runCells_at _ _ (1 + x) (by omega), Nat.le_refl _, fun e => (by cases e)⟩
theorem built_run (gp : Option Addr) (sa : Option Addr) (N sc : Nat) : Tryz.prog.built 78 [(0, .pointer gp), (1, .slice sa N sc)] = some (runCells (.pointer gp) (.slice sa N sc)) := by kernel_rfl
set_option maxHeartbeats 2000000 in
theorem runOf_any (gp sa : Option Addr) (N sc : Nat) (w : World) :
  Calls Tryz.prog 12 #[.pointer gp, .slice sa N sc] w fun e w' => e = .returned (.pointer (some ⟨w.heap.size, 0, none⟩)) ∧ w'.heap[w.heap.size]? = some (.cells (runCells (.pointer gp) (.slice sa N sc)) 78 (0, 0)) ∧ Below w.heap.size w w' := by
 have hbm := built_run gp sa N sc
 go_enter Tryz.func12, Tryz.ntmps12
 go_wp2_with (first | (refine wpList_buildTo rfl 78 _ rfl (some 7) rfl (runCells (.pointer gp) (.slice sa N sc)) hbm ?_) | (refine wpList_boxTo rfl 78 _ rfl (some 8) rfl w.heap.size (by simp) (runCells (.pointer gp) (.slice sa N sc)) rfl ?_) | fail)
 go_ret
 exact ⟨rfl, alloc_last w _, (Below.refl _ _).alloc (Nat.le_refl _) _⟩
theorem runB_new {w : World} {B rb gb n N sc : Nat} {sa : Option Addr} (h : w.heap[rb]? = some (.cells (runCells (.pointer (some ⟨gb, 0, none⟩)) (.slice sa N sc)) 78 (0, 0))) (hB : B ≤ rb) (hn : n ≤ 4000) : RunB false B rb gb n (.slice sa N sc) 0 0 [] [] (.slice none 0 0) (.slice none 0 0) w :=
 ⟨⟨_, h, runC_new _ _ _⟩, World.ownsRow_nil _ _ _ _, World.ownsRow_nil _ _ _ _, fun b hb => (by cases hb), hB, by rw [List.map_nil, unm_nil]; simp, Nat.zero_le _, hn⟩
def NoPass (w : World) (r : Ending) (w' : World) : Prop := r = .returned (hitV (none, 0)) ∧ Below w.heap.size w w'
theorem spass_neg (rb B' gb st n N sc : Nat) (g : List St) (sa : Option Addr) (a wm : Int) (w : World) (hn : n = g.length) (hn0 : 0 < n) (hg : GrAt B' gb g st w) (h : w.heap[rb]? = some (.cells (runCells (.pointer (some ⟨gb, 0, none⟩)) (.slice sa N sc)) 78 (0, 0))) (ha : a < 0) (_hN : N ≤ 1099511627776) :
  Calls Tryz.prog 13 #[.pointer (some ⟨rb, 0, none⟩), .int .i64 a, .int .i64 wm] w (NoPass w) := by
 have c0 : w.cell? ⟨rb, 0, none⟩ = some (.pointer (some ⟨gb, 0, none⟩)) := (Lib.cell_of_heap h 0).trans (by unfold runCells; rw [List.getElem?_toArray]; rfl)
 have c1 : w.cell? ⟨rb, 1, none⟩ = some (.slice sa N sc) := (Lib.cell_of_heap h 1).trans (by unfold runCells; rw [List.getElem?_toArray]; rfl)
 have cz := lt_blkB h
 obtain ⟨W, hW⟩ : ∃ W, W = (w.alloc (.cells #[.bool false, .int .i64 0, .int .i64 0, .int .i64 0] 31)).alloc (.cells #[.bool false, .int .i64 0, .int .i64 0, .int .i64 0] 31) := ⟨_, rfl⟩
 have hb : Below w.heap.size w W := by rw [hW]; exact ((Below.refl _ _).alloc (Nat.le_refl _) _).alloc (by simp) _
 have HB := Lib.hid hb
 have HLEN := Lib.hid (glen_any B' gb st g W (hg.below hb))
 rw [← hn] at HLEN
 have g1 : ((n : Int) == 0) = false := by simp; omega
 have g0 : ¬ (n : Int) = 0 := by omega
 have g2 : decide (a < 0) = true := decide_eq_true ha
 rw [hW] at HLEN HB
 unfold NoPass
 clear h hg hn hb hW
 go_enter Tryz.func13, Tryz.ntmps13
 go_wp2
 go_step3
 go_wp2_with (first | (go_at_call 26; refine HLEN.out.mono ?_; rintro r wq ⟨rfl, rfl⟩) | fail)
 rw [Exit.noGoto_ret]
 refine bodyPost_ret (v := .agg #[.bool false, .int .i64 0, .int .i64 0, .int .i64 0]) (by simp [results, Tryz.results13, go_sem]) rfl ?_
 exact ⟨rfl, HB.out⟩
theorem spass_big (rb B' gb st n N sc : Nat) (g : List St) (sa : Option Addr) (a wm : Int) (w : World) (hn : n = g.length) (hn0 : 0 < n) (hg : GrAt B' gb g st w) (h : w.heap[rb]? = some (.cells (runCells (.pointer (some ⟨gb, 0, none⟩)) (.slice sa N sc)) 78 (0, 0))) (ha : (N : Int) < a) (hN : N ≤ 1099511627776) :
  Calls Tryz.prog 13 #[.pointer (some ⟨rb, 0, none⟩), .int .i64 a, .int .i64 wm] w (NoPass w) := by
 have c0 : w.cell? ⟨rb, 0, none⟩ = some (.pointer (some ⟨gb, 0, none⟩)) := (Lib.cell_of_heap h 0).trans (by unfold runCells; rw [List.getElem?_toArray]; rfl)
 have c1 : w.cell? ⟨rb, 1, none⟩ = some (.slice sa N sc) := (Lib.cell_of_heap h 1).trans (by unfold runCells; rw [List.getElem?_toArray]; rfl)
 have cz := lt_blkB h
 obtain ⟨W, hW⟩ : ∃ W, W = (w.alloc (.cells #[.bool false, .int .i64 0, .int .i64 0, .int .i64 0] 31)).alloc (.cells #[.bool false, .int .i64 0, .int .i64 0, .int .i64 0] 31) := ⟨_, rfl⟩
 have hb : Below w.heap.size w W := by rw [hW]; exact ((Below.refl _ _).alloc (Nat.le_refl _) _).alloc (by simp) _
 have HB := Lib.hid hb
 have HLEN := Lib.hid (glen_any B' gb st g W (hg.below hb))
 rw [← hn] at HLEN
 have g1 : ((n : Int) == 0) = false := by simp; omega
 have g0 : ¬ (n : Int) = 0 := by omega
 have g2 : ¬ a < 0 := by omega
 have g2' : decide (a < 0) = false := by simp; omega
 have g3 : decide ((N : Int) < a) = true := decide_eq_true ha
 rw [hW] at HLEN HB
 unfold NoPass
 clear h hg hn hb hW
 go_enter Tryz.func13, Tryz.ntmps13
 go_wp2
 go_step3
 go_wp2_with (first | (go_at_call 26; refine HLEN.out.mono ?_; rintro r wq ⟨rfl, rfl⟩) | fail)
 rw [Exit.noGoto_ret]
 refine bodyPost_ret (v := .agg #[.bool false, .int .i64 0, .int .i64 0, .int .i64 0]) (by simp [results, Tryz.results13, go_sem]) rfl ?_
 exact ⟨rfl, HB.out⟩
structure AutA (gb st : Nat) (g : List St) (w : World) : Prop where
 gr : ∃ B, GrAt B gb g st w
 cl : ClG g
 ze : ∀ x, g[x]? = some .acc ↔ x = 0
 lt : st < g.length
 n4 : g.length ≤ 4000
theorem AutA.below {gb st : Nat} {g : List St} {w w' : World} (h : AutA gb st g w) (hb : Below w.heap.size w w') : AutA gb st g w' := by
 obtain ⟨B, hg⟩ := h.gr
 exact ⟨⟨B, hg.below hb⟩, h.cl, h.ze, h.lt, h.n4⟩
def askF (G : List St × Nat) (l : List Int) (a : Int) (wm : Nat) : Option (Nat × Nat) × Nat := if a < 0 then (none, 0) else passF G l a.toNat wm
theorem askF_out {G : List St × Nat} {l : List Int} {a : Int} {wm : Nat} (h : a < 0 ∨ (l.length : Int) < a) : askF G l a wm = (none, 0) := by
 unfold askF
 split
 ·rfl
 ·unfold passF
  rw [if_pos (by omega)]
theorem Sl.sub {w : World} {v : Value} {l : List Int} (h : Sl w v l) : ∃ sa sc, v = .slice sa l.length sc ∧ Byt l ∧ ∀ i, i < l.length → ∃ lb lo, sa = some ⟨lb, lo, none⟩ ∧ lb < w.heap.size ∧ w.cell? ⟨lb, lo + i, none⟩ = some (.int .u8 (l.getD i 0)) := by
 obtain ⟨hb, _, ⟨rfl, a, cap, rfl⟩ | ⟨b, o, cap, rfl, _, _, hrow⟩⟩ := h
 ·exact ⟨a, cap, rfl, hb, fun i hi => by cases hi⟩
 ·exact ⟨_, cap, rfl, hb, fun i hi => ⟨b, o, rfl, World.block_lt_of_cell? _ _ (hrow i hi), hrow i hi⟩⟩
theorem newpass_any (rb gb st wm sc : Nat) (g : List St) (l : List Int) (sa : Option Addr) (a : Int) (w : World) (hA : AutA gb st g w) (h : w.heap[rb]? = some (.cells (runCells (.pointer (some ⟨gb, 0, none⟩)) (.slice sa l.length sc)) 78 (0, 0))) (hby : Byt l) (hl : l.length ≤ 1099511627000)
  (hcell : ∀ i, i < l.length → ∃ lb lo, sa = some ⟨lb, lo, none⟩ ∧ lb < rb ∧ w.cell? ⟨lb, lo + i, none⟩ = some (.int .u8 (l.getD i 0))) (hwm : wm ≤ 2) :
  Calls Tryz.prog 13 #[.pointer (some ⟨rb, 0, none⟩), .int .i64 a, .int .i64 (wm : Nat)] w fun r w' => r = .returned (hitV (askF (g, st) l a wm)) ∧ Below rb w w' := by
 obtain ⟨B', hg⟩ := hA.gr
 have hrb := lt_blkB h
 have hn0 : 0 < g.length := by have := hA.lt; omega
 by_cases h1 : a < 0
 ·rw [askF_out (Or.inl h1)]
  exact (spass_neg rb B' gb st g.length l.length sc g sa a wm w rfl hn0 hg h h1 (by omega)).mono fun r w' hq => ⟨hq.1, hq.2.mono (Nat.le_of_lt hrb)⟩
 by_cases h2 : (l.length : Int) < a
 ·rw [askF_out (Or.inr h2)]
  exact (spass_big rb B' gb st g.length l.length sc g sa a wm w rfl hn0 hg h h2 (by omega)).mono fun r w' hq => ⟨hq.1, hq.2.mono (Nat.le_of_lt hrb)⟩
 obtain ⟨k, rfl⟩ : ∃ k : Nat, a = (k : Int) := ⟨a.toNat, by omega⟩
 have e : askF (g, st) l (k : Int) wm = passF (g, st) l k wm := by unfold askF; rw [if_neg h1]; rfl
 rw [e]
 refine (spass_any false rb B' gb st rb g.length 0 0 k wm l.length sa sc g l [] [] _ _ w rfl hA.cl hA.ze hA.lt hg (runB_new h (Nat.le_refl _) hA.n4) (Nat.le_of_lt hrb) rfl hl (by omega) hby hcell (by omega) hwm).mono ?_
 rintro r w' ⟨h3, _, _, _, _, _, _, _, _, h4⟩
 exact ⟨h3, h4.bel⟩
theorem ssearch_any (gb st : Nat) (g : List St) (v : Value) (l : List Int) (a : Int) (w : World) (hA : AutA gb st g w) (hs : Sl w v l) (hl : l.length ≤ 1099511627000) :
  Calls Tryz.prog 7 #[.pointer (some ⟨gb, 0, none⟩), v, .int .i64 a] w fun r w' => r = .returned (hitV (askF (g, st) l a 1)) ∧ Below w.heap.size w w' := by
 obtain ⟨sa, sc, rfl, hby, hcell⟩ := hs.sub
 obtain ⟨W, hW⟩ : ∃ W, W = w.alloc (.cells #[.bool false, .int .i64 0, .int .i64 0, .int .i64 0] 31) := ⟨_, rfl⟩
 have hb : Below w.heap.size w W := by rw [hW]; exact (Below.refl _ _).alloc (Nat.le_refl _) _
 have H6 : Hid (W.heap[w.heap.size]? = some (.cells #[.bool false, .int .i64 0, .int .i64 0, .int .i64 0] 31 (0, 0))) := Lib.hid (by rw [hW]; exact alloc_last w _)
 have hz : W.heap.size = w.heap.size + 1 := by rw [hW]; simp
 have HRO := Lib.hid (runOf_any (some ⟨gb, 0, none⟩) sa l.length sc W)
 have HPA : Hid (∀ X, X.heap[W.heap.size]? = some (.cells (runCells (.pointer (some ⟨gb, 0, none⟩)) (.slice sa l.length sc)) 78 (0, 0)) → Below W.heap.size W X → Calls Tryz.prog 13 #[.pointer (some ⟨W.heap.size, 0, none⟩), .int .i64 a, .int .i64 (1 : Nat)] X fun r w' => r = .returned (hitV (askF (g, st) l a 1)) ∧ Below W.heap.size X w') := Lib.hid (fun X h1 h2 => newpass_any W.heap.size gb st 1 sc g l sa a X ((hA.below hb).below h2) h1 hby hl (fun i hi => by
  obtain ⟨lb, lo, e1, e2, e3⟩ := hcell i hi
  exact ⟨lb, lo, e1, by omega, (h2.cell (show (⟨lb, lo + i, none⟩ : Addr).block < W.heap.size by show lb < _; omega)).trans ((hb.cell (show (⟨lb, lo + i, none⟩ : Addr).block < w.heap.size from e2)).trans e3)⟩) (by omega))
 have HB := Lib.hid hb
 have HWE := Lib.hid hW
 obtain ⟨R, hR⟩ : ∃ R, R = askF (g, st) l a 1 := ⟨_, rfl⟩
 rw [← hR] at HPA ⊢
 obtain ⟨hh, vi⟩ := R
 obtain ⟨s0, e0, _, _, hval⟩ := hitC_parts hh
 rw [hval vi] at HPA ⊢
 have HZ := Lib.hid hz
 clear hA hs hby hcell hb hW hR hval hz
 go_enter Tryz.func7, Tryz.ntmps7
 go_upto_region 1 with fail
 rw [← HWE.out]
 go_wp2_with fail
 refine HRO.out.mono ?_
 rintro r X1 ⟨rfl, hc1, hb1⟩
 have HB1 := Lib.hid hb1
 have HPX := Lib.hid (HPA.out X1 hc1 hb1)
 clear hc1 hb1
 go_wp2_with fail
 refine HPX.out.mono ?_
 rintro r X2 ⟨rfl, hb2⟩
 have hh6 : X2.heap[w.heap.size]? = some (.cells #[.bool false, .int .i64 0, .int .i64 0, .int .i64 0] 31 (0, 0)) := (hb2.block _ (by have := HZ.out; omega)).trans (blk_below H6.out HB1.out)
 have HB2 : Hid (Below w.heap.size w X2) := Lib.hid (HB.out.trans ((HB1.out.trans hb2).mono (by have := HZ.out; omega)))
 have r0 : X2.cell? ⟨w.heap.size, 0, none⟩ = some (.bool false) := (Lib.cell_of_heap hh6 0).trans rfl
 have r1 : X2.cell? ⟨w.heap.size, 1, none⟩ = some (.int .i64 0) := (Lib.cell_of_heap hh6 1).trans rfl
 have r2 : X2.cell? ⟨w.heap.size, 2, none⟩ = some (.int .i64 0) := (Lib.cell_of_heap hh6 2).trans rfl
 have r3 : X2.cell? ⟨w.heap.size, 3, none⟩ = some (.int .i64 0) := (Lib.cell_of_heap hh6 3).trans rfl
 have g0 : X2.frozen? ⟨w.heap.size, 0, none⟩ = false := row_freeN hh6 0
 have g1 : X2.frozen? ⟨w.heap.size, 1, none⟩ = false := row_freeN hh6 1
 have g2 : X2.frozen? ⟨w.heap.size, 2, none⟩ = false := row_freeN hh6 2
 have g3 : X2.frozen? ⟨w.heap.size, 3, none⟩ = false := row_freeN hh6 3
 have rz := lt_blkB hh6
 have HH6 := Lib.hid hh6
 clear hb2 hh6
 go_wp2_with fail
 have hbx := blk_setI (i := 3) (y := .int .i64 (vi : Nat)) (blk_setI (i := 2) (y := .int .i64 (e0 : Nat)) (blk_setI (i := 1) (y := .int .i64 (s0 : Nat)) (blk_setI (i := 0) (y := .bool hh.isSome) HH6.out)))
 have HX : Hid (Below w.heap.size w ((((X2.setCell ⟨w.heap.size, 0, none⟩ (.bool hh.isSome)).setCell ⟨w.heap.size, 1, none⟩ (.int .i64 (s0 : Nat))).setCell ⟨w.heap.size, 2, none⟩ (.int .i64 (e0 : Nat))).setCell ⟨w.heap.size, 3, none⟩ (.int .i64 (vi : Nat)))) := Lib.hid ((((HB2.out.setCell (p := ⟨w.heap.size, 0, none⟩) (Nat.le_refl _) _).setCell (p := ⟨w.heap.size, 1, none⟩) (Nat.le_refl _) _).setCell (p := ⟨w.heap.size, 2, none⟩) (Nat.le_refl _) _).setCell (p := ⟨w.heap.size, 3, none⟩) (Nat.le_refl _) _)
 generalize (((X2.setCell ⟨w.heap.size, 0, none⟩ (.bool hh.isSome)).setCell ⟨w.heap.size, 1, none⟩ (.int .i64 (s0 : Nat))).setCell ⟨w.heap.size, 2, none⟩ (.int .i64 (e0 : Nat))).setCell ⟨w.heap.size, 3, none⟩ (.int .i64 (vi : Nat)) = X at *
 have m0 : X.cell? ⟨w.heap.size, 0, none⟩ = some (.bool hh.isSome) := (Lib.cell_of_heap hbx 0).trans rfl
 have m1 : X.cell? ⟨w.heap.size, 1, none⟩ = some (.int .i64 (s0 : Nat)) := (Lib.cell_of_heap hbx 1).trans rfl
 have m2 : X.cell? ⟨w.heap.size, 2, none⟩ = some (.int .i64 (e0 : Nat)) := (Lib.cell_of_heap hbx 2).trans rfl
 have m3 : X.cell? ⟨w.heap.size, 3, none⟩ = some (.int .i64 (vi : Nat)) := (Lib.cell_of_heap hbx 3).trans rfl
 refine bodyPost_ret (v := .agg #[.bool hh.isSome, .int .i64 (s0 : Nat), .int .i64 (e0 : Nat), .int .i64 (vi : Nat)]) (by simp [results, Tryz.results7, go_sem, m0, m1, m2, m3]) rfl ?_
 exact ⟨rfl, HX.out⟩
end Go.Proofs.YtnpkcllbpnmabaaGreatDoor
