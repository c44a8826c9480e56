import Derived.Test.YtnpkcllbpnmabaaGreatDoorKPu
import Derived.Test.YtnpkcllbpnmabaaGreatDoorKRm
import Derived.RangeFuncOwn
import Derived.Test.YtnpkcllbpnmabaaGreatDoorKLi
namespace Go.Proofs.YtnpkcllbpnmabaaGreatDoor
set_option maxHeartbeats 8000000
set_option maxRecDepth 100000
open Go.RowKit
def stC (k : Int) (p : Nat → Bool) (y z : Nat) : List Value := [.int .i64 k, .int .u64 (sw p 0 : Nat), .int .u64 (sw p 1 : Nat), .int .u64 (sw p 2 : Nat), .int .u64 (sw p 3 : Nat), .int .i64 y, .int .i64 z]
def St.cells : St → List Value
 | .acc => stC 0 noP 0 0
 | .eat p y => stC 1 p y 0
 | .beg y => stC 2 noP y 0
 | .fin y => stC 3 noP y 0
 | .fork y z => stC 4 noP y z
theorem St.cells_len : ∀ s : St, s.cells.length = 7
 | .acc => rfl
 | .eat _ _ => rfl
 | .beg _ => rfl
 | .fin _ => rfl
 | .fork _ _ => rfl
theorem St.parts (s : St) : ∃ k p y z, s.cells = stC k p y z := by cases s <;> exact ⟨_, _, _, _, rfl⟩
theorem St.one (s : St) : ∀ u ∈ s.cells, u.oneCell' = true := by
 obtain ⟨k, p, y, z, e⟩ := s.parts
 rw [e]
 intro u hu
 unfold stC at hu
 simp only [List.mem_cons, List.not_mem_nil, or_false] at hu
 rcases hu with rfl | rfl | rfl | rfl | rfl | rfl | rfl <;> rfl
def rowS : List St → List Value
 | [] => []
 | s :: g => s.cells ++ rowS g
theorem rowS_app : ∀ (g h : List St), rowS (g ++ h) = rowS g ++ rowS h
 | [], _ => rfl
 | s :: g, h => by show s.cells ++ rowS (g ++ h) = _; rw [rowS_app g h, ← List.append_assoc]; rfl
theorem rowS_snoc (g : List St) (s : St) : rowS (g ++ [s]) = rowS g ++ s.cells := by rw [rowS_app]; show rowS g ++ (s.cells ++ []) = _; rw [List.append_nil]
theorem rowS_len : ∀ g : List St, (rowS g).length = g.length * 7
 | [] => rfl
 | s :: g => by show (s.cells ++ rowS g).length = (g.length + 1) * 7; rw [List.length_append, St.cells_len, rowS_len g]; omega
theorem rowS_at : ∀ (g : List St) (k : Nat) (s : St), g[k]? = some s → ∀ i, i < 7 → (rowS g)[k * 7 + i]? = s.cells[i]?
 | [], _, _, h, _, _ => by simp at h
 | t :: g, 0, s, h, i, hi => by
  have e : t = s := Option.some.inj h
  subst e
  show (t.cells ++ rowS g)[0 * 7 + i]? = _
  rw [Nat.zero_mul, Nat.zero_add, List.getElem?_append_left (by rw [St.cells_len]; exact hi)]
 | t :: g, k + 1, s, h, i, hi => by
  show (t.cells ++ rowS g)[(k + 1) * 7 + i]? = _
  rw [List.getElem?_append_right (by rw [St.cells_len]; omega), St.cells_len, show (k + 1) * 7 + i - 7 = k * 7 + i by omega]
  exact rowS_at g k s (by simpa using h) i hi
theorem st_parts : ∃ i z, Tryz.prog.info? 103 = some i ∧ i.zero = some z ∧ i.size = 7 ∧ i.bytes = 56 ∧ z.cells.size = 7 := by
 have h : (Tryz.prog.info? 103).map (fun i => (i.zero.map (·.cells.size), i.size, i.bytes)) = some (some 7, 7, 56) := by kernel_rfl
 obtain ⟨i, hi, hzz⟩ := Option.map_eq_some_iff.1 h
 simp only [Prod.mk.injEq] at hzz
 obtain ⟨z, hz, hs⟩ := Option.map_eq_some_iff.1 hzz.1
 exact ⟨i, z, hi, hz, hzz.2.1, hzz.2.2, hs⟩
theorem nre_size : (Tryz.prog.info? 57).map (·.size) = some 9 := by kernel_rfl
structure GrAt (B gb : Nat) (g : List St) (st : Nat) (w : World) : Prop where
 lo : B ≤ gb
 row : ∃ v, w.heap[gb]? = some (.cells #[v, .int .i64 st] 106 (0, 0)) ∧ w.ownsRow B 103 7 v g.length (rowS g)
theorem GrAt.below {B gb st : Nat} {g : List St} {w w' : World} (h : GrAt B gb g st w) (hb : Below w.heap.size w w') : GrAt B gb g st w' := by
 obtain ⟨h0, v, h1, h2⟩ := h
 exact ⟨h0, v, blk_below h1 hb, own_drop h2 hb⟩
structure ChG (B : Nat) (w w' : World) : Prop where
 bel : Below B w w'
 oth : ∀ (i : Nat) (cs : Array Value) (T : TypeId) (z : Nat × Nat), T ≠ 106 → T ≠ 103 → w.heap[i]? = some (.cells cs T z) → w'.heap[i]? = w.heap[i]?
 kp : KeepsOthers w w'
theorem ChG.refl (B : Nat) (w : World) : ChG B w w := ⟨Below.refl _ _, fun _ _ _ _ _ _ _ => rfl, KeepsOthers.refl _⟩
theorem ChG.trans {B : Nat} {a b c : World} (h : ChG B a b) (k : ChG B b c) : ChG B a c :=
 ⟨h.bel.trans k.bel, fun i cs T z h1 h2 h3 => (k.oth i cs T z h1 h2 ((h.oth i cs T z h1 h2 h3).trans h3)).trans (h.oth i cs T z h1 h2 h3), h.kp.trans k.kp⟩
theorem keeps_below {w w' : World} (h : Below w.heap.size w w') : KeepsOthers w w' := ⟨h.size, fun k _ hk _ => (h.block k (lt_blkB hk)).trans hk⟩
theorem ChG.below {B : Nat} {w w' : World} (h : Below w.heap.size w w') (hB : B ≤ w.heap.size) : ChG B w w' :=
 ⟨h.mono hB, fun i _ _ _ _ _ h3 => h.block i (lt_blkB h3), keeps_below h⟩
theorem ChG.alloc {B : Nat} {w w' : World} (h : ChG B w w') (hB : B ≤ w.heap.size) (o : Obj) : ChG B w (w'.alloc o) :=
 h.trans (ChG.below ((Below.refl _ _).alloc (Nat.le_refl _) _) (Nat.le_trans hB h.bel.size))
theorem ChG.grown {B : Nat} {w w' w2 : World} {v : Value} {n s : Nat} {xs : List Value} (h : ChG B w w') (hB : B ≤ w.heap.size) (ho : w'.ownsRow B 103 s v n xs) (hg : w'.grownBy w2 v.ownBlock) : ChG B w w2 :=
 h.trans ⟨(Below.refl _ _).grown hg (Nat.le_trans hB h.bel.size) (fun k hk => (ho.lt k hk).1), fun i cs T z _ h2 h3 => hg.block i (lt_blkB h3) (fun e => own_neK ho h3 h2 e.symm), KeepsOthers.of_grownBy hg fun j _ hj ho' => by
  obtain ⟨_, ⟨rfl, _⟩ | ⟨g, cap, cur, rfl, _, hgb, _⟩⟩ := ho
  ·cases hj
  ·have e : g = j := Option.some.inj hj
   subst e
   rw [hgb] at ho'
   rw [← Option.some.inj ho']
   rfl⟩
theorem ChG.setG {B : Nat} {w w' : World} (h : ChG B w w') {gb : Nat} {cs : Array Value} (hg : w'.heap[gb]? = some (.cells cs 106 (0, 0))) (hB : B ≤ gb) (i : Nat) (y : Value) : ChG B w (w'.setCell ⟨gb, i, none⟩ y) :=
 h.trans ⟨(Below.refl _ _).setCell (p := ⟨gb, i, none⟩) hB _, fun k _ T _ h1 _ h3 => Below.heap_setCell _ _ _ _ (by simp; intro e; subst e; rw [hg] at h3; simp only [Option.some.injEq, Obj.cells.injEq] at h3; exact h1 h3.2.1.symm), KeepsOthers.setCell _ _ _⟩
theorem ChG.blk {B : Nat} {w w' : World} (h : ChG B w w') {i : Nat} {cs : Array Value} {T : TypeId} {z : Nat × Nat} (hb : w.heap[i]? = some (.cells cs T z)) (h1 : T ≠ 106) (h2 : T ≠ 103) : w'.heap[i]? = some (.cells cs T z) := (h.oth i cs T z h1 h2 hb).trans hb
structure PutS (B gb k0 : Nat) (W : World) (v stv : Value) (n : Nat) (xs : List Value) (cs : List Value) (d6 d7 d10 : Bool) (u6 u7 : Value) (X : World) : Prop where
 ch : ChG B W X
 box : X.heap[k0]? = some (.cells cs.toArray 103 (0, 0))
 pat : d10 = false → X.heap[gb]? = some (.cells #[v, stv] 106 (0, 0))
 row : d7 = false → X.ownsRow B 103 7 v n xs
 lit : d6 = true → d7 = false → ∃ g, u6 = .slice (some ⟨g, 0, none⟩) 1 1 ∧ X.heap[g]? = some (.cells cs.toArray 103 (0, 0))
 new : d7 = true → X.ownsRow B 103 7 u7 (n + 1) (xs ++ cs)
 pat' : d10 = true → X.heap[gb]? = some (.cells #[u7, stv] 106 (0, 0))
theorem cells7s {X : World} {b : Nat} {c0 c1 c2 c3 c4 c5 c6 : Value} {T : TypeId} (h : X.heap[b]? = some (.cells #[c0, c1, c2, c3, c4, c5, c6] T (0, 0))) :
  X.cell? ⟨b, 0, none⟩ = some c0 ∧ X.cell? ⟨b, 1, none⟩ = some c1 ∧ X.cell? ⟨b, 2, none⟩ = some c2 ∧ X.cell? ⟨b, 3, none⟩ = some c3 ∧ X.cell? ⟨b, 4, none⟩ = some c4 ∧ X.cell? ⟨b, 5, none⟩ = some c5 ∧ X.cell? ⟨b, 6, none⟩ = some c6 ∧ b < X.heap.size :=
 ⟨(Lib.cell_of_heap h 0).trans rfl, (Lib.cell_of_heap h 1).trans rfl, (Lib.cell_of_heap h 2).trans rfl, (Lib.cell_of_heap h 3).trans rfl, (Lib.cell_of_heap h 4).trans rfl, (Lib.cell_of_heap h 5).trans rfl, (Lib.cell_of_heap h 6).trans rfl, lt_blkB h⟩
theorem put_any (B gb : Nat) (g : List St) (st : Nat) (s : St) (w : World) (h : GrAt B gb g st w) (hBw : B ≤ w.heap.size) (hlen : g.length ≤ 1099511627776) :
  Calls Tryz.prog 63 #[.pointer (some ⟨gb, 0, none⟩), .agg s.cells.toArray] w fun x w' => x = .returned (.int .i64 (g.length : Nat)) ∧ GrAt B gb (g ++ [s]) st w' ∧ ChG B w w' := by
 obtain ⟨hB, v, hpb, hrow⟩ := h
 obtain ⟨k, p, y, z, hcs⟩ := s.parts
 have HR : Hid (rowS (g ++ [s]) = rowS g ++ s.cells) := Lib.hid (rowS_snoc g s)
 have HONE := Lib.hid s.one
 have HL7 := Lib.hid s.cells_len
 generalize s.cells = cs at *
 obtain ⟨i0, z0, hi, hz0, hz1, hz2, hz3⟩ := st_parts
 unfold stC at hcs
 have hlt : gb < w.heap.size := lt_blkB hpb
 obtain ⟨W, hW⟩ : ∃ W, W = w.alloc (.cells cs.toArray 103) := ⟨_, rfl⟩
 have hsz : W.heap.size = w.heap.size + 1 := by rw [hW]; simp
 have HCW : Hid (ChG B w W) := Lib.hid (by rw [hW]; exact (ChG.refl B w).alloc hBw _)
 have HBX : Hid (W.heap[w.heap.size]? = some (.cells cs.toArray 103 (0, 0))) := Lib.hid (by rw [hW]; exact alloc_last w _)
 have HPB : Hid (W.heap[gb]? = some (.cells #[v, .int .i64 st] 106 (0, 0))) := Lib.hid (by rw [hW]; exact blk_alloc hpb _)
 have HRW : Hid (W.ownsRow B 103 7 v g.length (rowS g)) := Lib.hid (by rw [hW]; exact hrow.alloc _)
 have HVK : Hid (v.ownBlock ≠ some w.heap.size) := Lib.hid (fun e => by have := (hrow.lt _ e).2; omega)
 rw [hcs] at hW
 have HWE := Lib.hid hW
 have HCS := Lib.hid hcs
 rw [hcs]
 clear hrow hpb hW hcs
 go_enter Tryz.func63, Tryz.ntmps63
 go_wp2_with fail
 rw [← HWE.out]
 refine Reg.wp_region_sto (fun L u' X => PutS B gb w.heap.size W v (.int .i64 st) g.length (rowS g) cs (L 6) (L 7) (L 10) (u' 6) (u' 7) X) (fun j => ([some (.pointer (some ⟨gb, 0, none⟩)), some (.pointer (some ⟨gb, 0, none⟩)), some (.pointer (some ⟨gb, 0, none⟩)), some (.pointer (some ⟨gb, 0, none⟩)), some (v), some (.agg #[.int .i64 k, .int .u64 (sw p 0 : Nat), .int .u64 (sw p 1 : Nat), .int .u64 (sw p 2 : Nat), .int .u64 (sw p 3 : Nat), .int .i64 (y : Nat), .int .i64 (z : Nat)]), none, none, some (.pointer (some ⟨gb, 0, none⟩)), some (.pointer (some ⟨gb, 0, none⟩)), none] : List (Option Value)).getD j none) (by kernel_rfl) (by kernel_rfl) (by kernel_rfl) (by kernel_rfl) ?rs0 ?rsE ?rsZ
 case rs0 => exact ⟨ChG.below (Below.refl _ _).drew (by omega), HBX.out, fun _ => HPB.out, fun _ => HRW.out, fun h => (by cases h), fun h => (by cases h), fun h => (by cases h)⟩
 case rsE =>
  refine Reg.EachG.plain rfl (fun L u' T X hL hz hS hk K hK => ?_) ?_
  ·skip
   have g0 := hk.old 0 (by kernel_rfl) rfl
   have hK := hK _ X hS (fun _ hx => Option.some.inj hx)
   clear hk hz hL
   go_simp
   exact hK
  refine Reg.EachG.plain rfl (fun L u' T X hL hz hS hk K hK => ?_) ?_
  ·skip
   have g0 := hk.old 0 (by kernel_rfl) rfl
   have hK := hK _ X hS (fun _ hx => Option.some.inj hx)
   clear hk hz hL
   go_simp
   exact hK
  refine Reg.EachG.plain rfl (fun L u' T X hL hz hS hk K hK => ?_) ?_
  ·skip
   have g6 := hk.val 1 6 (by kernel_rfl) (by kernel_rfl) rfl
   have hK := hK _ X hS (fun _ hx => Option.some.inj hx)
   clear hk hz hL
   go_simp
   exact hK
  refine Reg.EachG.plain rfl (fun L u' T X hL hz hS hk K hK => ?_) ?_
  ·skip
   have g7 := hk.val 2 7 (by kernel_rfl) (by kernel_rfl) rfl
   have hK := hK _ X hS (fun _ hx => Option.some.inj hx)
   clear hk hz hL
   go_simp
   exact hK
  refine Reg.EachG.plain rfl (fun L u' T X hL hz hS hk K hK => ?_) ?_
  ·skip
   have g8 := hk.val 3 8 (by kernel_rfl) (by kernel_rfl) rfl
   have hd : L 10 = false := hz 10 (by kernel_rfl)
   obtain ⟨⟨c0, c1⟩, _, hbz⟩ := cells2 (hS.pat hd)
   have hK := hK _ X hS (fun _ hx => Option.some.inj hx)
   clear hk hz hL hd
   go_simp
   exact hK
  refine Reg.EachG.plain rfl (fun L u' T X hL hz hS hk K hK => ?_) ?_
  ·skip
   have g3 := hk.old 3 (by kernel_rfl) rfl
   have hbx := hS.box
   rw [HCS.out] at hbx
   obtain ⟨c0, c1, c2, c3, c4, c5, c6, hbz⟩ := cells7s hbx
   have hK := hK _ X hS (fun _ hx => Option.some.inj hx)
   clear hk hz hL hbx
   go_simp
   exact hK
  refine Reg.EachG.plain rfl (fun L u' T X hL hz hS hk K hK => ?_) ?_
  ·skip
   have g10 := hk.val 5 10 (by kernel_rfl) (by kernel_rfl) rfl
   have hd7 : L 7 = false := hz 7 (by kernel_rfl)
   have hd10 : L 10 = false := hz 10 (by kernel_rfl)
   have hK := hK (.slice (some ⟨X.heap.size, 0, none⟩) 1 1) (X.alloc (.cells #[.int .i64 k, .int .u64 (sw p 0 : Nat), .int .u64 (sw p 1 : Nat), .int .u64 (sw p 2 : Nat), .int .u64 (sw p 3 : Nat), .int .i64 (y : Nat), .int .i64 (z : Nat)] 103)) ⟨hS.ch.alloc (by omega) _, blk_alloc hS.box _, fun _ => blk_alloc (hS.pat hd10) _, fun _ => (hS.row hd7).alloc _, fun _ _ => ⟨_, rfl, by rw [HCS.out]; exact alloc_last X _⟩, fun h => (by rw [Reg.upd_ne _ _ (by decide), hd7] at h; cases h), fun h => (by rw [Reg.upd_ne _ _ (by decide), hd10] at h; cases h)⟩ (fun _ hx => by cases hx)
   clear hk hz hL hd7 hd10 hS
   go_simp
   exact hK
  refine Reg.EachG.plain rfl (fun L u' T X hL hz hS hk K hK => ?_) ?_
  ·skip
   have g9 := hk.val 4 9 (by kernel_rfl) (by kernel_rfl) rfl
   obtain ⟨g11, l11⟩ := hk.any 6 11 (by kernel_rfl) (by kernel_rfl)
   have hd10 : L 10 = false := hz 10 (by kernel_rfl)
   obtain ⟨gl, e6, hg⟩ := hS.lit l11 hL
   rw [e6] at g11
   refine wp_append_own X (.tmp 9) (.tmp 11) 104 rfl B 103 i0 z0 7 56 Tryz.underlying104 hi hz0 hz1 hz2 hz3 (by decide) v g.length (rowS g) (by simp [Act.eval, g9]) (hS.row hL) ⟨gl, 0, none⟩ 1 1 cs (by simp [Act.eval, g11]) HL7.out (fun j u hj => by rw [WideShapes.add_plain, Nat.zero_add, Lib.cell_of_heap hg]; simpa using hj) HONE.out (by unfold maxLen; omega) (by omega) (Nat.le_trans hBw (by have := hS.ch.bel.size; omega)) ?_
   intro v' w' hown hgr _
   exact hK v' w' ⟨hS.ch.grown (by omega) (hS.row hL) hgr, blk_grown hS.box hgr HVK.out, fun _ => blk_grown (hS.pat hd10) hgr (own_neK (hS.row hL) (hS.pat hd10) (by decide)), fun h => (by rw [Reg.upd_same] at h; cases h), fun _ h => (by rw [Reg.upd_same] at h; cases h), fun _ => (by rw [Reg.upd_same]; exact hown), fun h => (by rw [Reg.upd_ne _ _ (by decide), hd10] at h; cases h)⟩ (fun _ hx => by cases hx)
  refine Reg.EachG.plain rfl (fun L u' T X hL hz hS hk K hK => ?_) ?_
  ·skip
   have g5 := hk.val 0 5 (by kernel_rfl) (by kernel_rfl) rfl
   have hK := hK _ X hS (fun _ hx => Option.some.inj hx)
   clear hk hz hL
   go_simp
   exact hK
  refine Reg.EachG.plain rfl (fun L u' T X hL hz hS hk K hK => ?_) ?_
  ·skip
   have g13 := hk.val 8 13 (by kernel_rfl) (by kernel_rfl) rfl
   have hK := hK _ X hS (fun _ hx => Option.some.inj hx)
   clear hk hz hL
   go_simp
   exact hK
  refine Reg.EachG.plain rfl (fun L u' T X hL hz hS hk K hK => ?_) ?_
  ·skip
   obtain ⟨g12, l12⟩ := hk.any 7 12 (by kernel_rfl) (by kernel_rfl)
   have g14 := hk.val 9 14 (by kernel_rfl) (by kernel_rfl) rfl
   obtain ⟨⟨c0, c1⟩, ⟨f0, f1⟩, hbz⟩ := cells2 (hS.pat hL)
   have hnew := hS.new l12
   have hK := hK undef (X.setCell ⟨gb, 0, none⟩ (u' 7)) ⟨hS.ch.setG (hS.pat hL) hB _ _, (Below.heap_setCell _ _ _ _ (by simp; omega)).trans hS.box, fun h => (by rw [Reg.upd_same] at h; cases h), fun h => (by rw [Reg.upd_ne _ _ (by decide), l12] at h; cases h), fun _ h => (by rw [Reg.upd_ne _ _ (by decide), l12] at h; cases h), fun _ => (by rw [Reg.upd_ne _ _ (by decide)]; exact own_set hnew (hS.pat hL) (by decide) _ _), fun _ => (by rw [Reg.upd_ne _ _ (by decide)]; exact blk_set0 (hS.pat hL))⟩ (fun _ hx => by cases hx)
   obtain ⟨a7, cap7, e7⟩ := own_shapeR hnew
   rw [e7] at hK g12
   clear hk hz hL hS hnew
   go_simp
   exact hK
  exact Reg.EachG.nil
 case rsZ =>
  intro L u' w1 hL hS hI
  have e0 : u' 0 = .pointer (some ⟨gb, 0, none⟩) := hI 0 (by decide) _ rfl
  have e1 : u' 1 = .pointer (some ⟨gb, 0, none⟩) := hI 1 (by decide) _ rfl
  have e2 : u' 2 = .pointer (some ⟨gb, 0, none⟩) := hI 2 (by decide) _ rfl
  have e3 : u' 3 = .pointer (some ⟨gb, 0, none⟩) := hI 3 (by decide) _ rfl
  have e4 : u' 4 = v := hI 4 (by decide) _ rfl
  have e5 : u' 5 = .agg #[.int .i64 k, .int .u64 (sw p 0 : Nat), .int .u64 (sw p 1 : Nat), .int .u64 (sw p 2 : Nat), .int .u64 (sw p 3 : Nat), .int .i64 (y : Nat), .int .i64 (z : Nat)] := hI 5 (by decide) _ rfl
  have e8 : u' 8 = .pointer (some ⟨gb, 0, none⟩) := hI 8 (by decide) _ rfl
  have e9 : u' 9 = .pointer (some ⟨gb, 0, none⟩) := hI 9 (by decide) _ rfl
  clear hI
  simp only [Reg.putAll, Act.put, List.setIfInBounds_toArray, List.set_cons_succ, List.set_cons_zero, Nat.zero_add, Nat.reduceAdd, e0, e1, e2, e3, e4, e5, e8, e9]
  clear e0 e1 e2 e3 e4 e5 e8 e9
  have d7 := hL 7 (by decide)
  have d10 := hL 10 (by decide)
  have hnew := hS.new d7
  have hpat := hS.pat' d10
  have HC := Lib.hid (HCW.out.trans hS.ch)
  have HNEW := Lib.hid hnew
  have HPAT := Lib.hid hpat
  generalize u' 6 = y6 at *
  generalize u' 7 = y7 at *
  obtain ⟨oa, oc, rfl⟩ := own_shapeR HNEW.out
  clear hS hnew hpat d7 d10 hL u' L
  obtain ⟨⟨c0, c1⟩, ⟨f0, f1⟩, hbz⟩ := cells2 HPAT.out
  go_wp2
  go_ret
  exact ⟨by simp, ⟨hB, _, HPAT.out, by rw [List.length_append, HR.out]; exact HNEW.out⟩, HC.out⟩
def PtQ (B gb st : Nat) (r : List St × Nat) (w : World) (x : Ending) (w' : World) : Prop := x = .returned (.int .i64 (r.2 : Nat)) ∧ GrAt B gb r.1 st w' ∧ ChG B w w'
def PtOk (N : Nat) : Prop := ∀ (B gb st : Nat) (nd : Nd) (kv : Value) (g : List St) (nx : Nat) (w : World), nd.nn ≤ N → nd.Ok → nd.Lt → g.length + nd.nn * 8000000 ≤ 1099511627776 → nx < g.length → GrAt B gb g st w → B ≤ w.heap.size → nd.In w (fun b => b < B) kv →
 Calls Tryz.prog 39 #[.pointer (some ⟨gb, 0, none⟩), nd.v kv, .int .i64 (nx : Nat)] w (PtQ B gb st (nd.B g nx) w)
theorem cells9s {X : World} {b : Nat} {c0 c1 c2 c3 c4 c5 c6 c7 c8 : Value} {T : TypeId} (h : X.heap[b]? = some (.cells #[c0, c1, c2, c3, c4, c5, c6, c7, c8] T (0, 0))) :
  X.cell? ⟨b, 0, none⟩ = some c0 ∧ X.cell? ⟨b, 1, none⟩ = some c1 ∧ X.cell? ⟨b, 2, none⟩ = some c2 ∧ X.cell? ⟨b, 3, none⟩ = some c3 ∧ X.cell? ⟨b, 4, none⟩ = some c4 ∧ X.cell? ⟨b, 5, none⟩ = some c5 ∧ X.cell? ⟨b, 6, none⟩ = some c6 ∧ X.cell? ⟨b, 7, none⟩ = some c7 ∧ X.cell? ⟨b, 8, none⟩ = some c8 ∧ b < X.heap.size :=
 ⟨(Lib.cell_of_heap h 0).trans rfl, (Lib.cell_of_heap h 1).trans rfl, (Lib.cell_of_heap h 2).trans rfl, (Lib.cell_of_heap h 3).trans rfl, (Lib.cell_of_heap h 4).trans rfl, (Lib.cell_of_heap h 5).trans rfl, (Lib.cell_of_heap h 6).trans rfl, (Lib.cell_of_heap h 7).trans rfl, (Lib.cell_of_heap h 8).trans rfl, lt_blkB h⟩
theorem stC_no (k : Int) (y z : Nat) : (stC k noP y z).toArray = #[.int .i64 k, .int .u64 0, .int .u64 0, .int .u64 0, .int .u64 0, .int .i64 (y : Nat), .int .i64 (z : Nat)] := by
 unfold stC
 have e : ∀ i, ((sw noP i : Nat) : Int) = 0 := sw_zero
 rw [e, e, e, e]
theorem part_leaf (B gb st : Nat) (kd : Int) (p : Nat → Bool) (mn mx gp : Int) (kids : Fo) (kv : Value) (g : List St) (nx : Nat) (w : World) (hk : kd = 1 ∨ kd = 2 ∨ kd = 3) (hlen : g.length ≤ 1099511627776) (h : GrAt B gb g st w) (hB : B ≤ w.heap.size) (hkv : ∃ a m c, kv = .slice a m c) :
  Calls Tryz.prog 39 #[.pointer (some ⟨gb, 0, none⟩), Nd.v ⟨kd, p, mn, mx, gp, kids⟩ kv, .int .i64 (nx : Nat)] w (PtQ B gb st (Nd.B ⟨kd, p, mn, mx, gp, kids⟩ g nx) w) := by
 obtain ⟨ka, km, kc, rfl⟩ := hkv
 obtain ⟨W, hW⟩ : ∃ W, W = ((w.alloc (.cells #[.pointer (some ⟨gb, 0, none⟩)] 71)).alloc (.cells #[.int .i64 kd, .int .u64 (sw p 0 : Nat), .int .u64 (sw p 1 : Nat), .int .u64 (sw p 2 : Nat), .int .u64 (sw p 3 : Nat), .int .i64 mn, .int .i64 mx, .int .i64 gp, .slice ka km kc] 57)).alloc (.cells #[.int .i64 (nx : Nat)] 3) := ⟨_, rfl⟩
 have hb0 : W.heap[w.heap.size]? = some (.cells #[.pointer (some ⟨gb, 0, none⟩)] 71 (0, 0)) := by rw [hW]; exact blk_alloc (blk_alloc (alloc_last w _) _) _
 have hb1 : W.heap[w.heap.size + 1]? = some (.cells #[.int .i64 kd, .int .u64 (sw p 0 : Nat), .int .u64 (sw p 1 : Nat), .int .u64 (sw p 2 : Nat), .int .u64 (sw p 3 : Nat), .int .i64 mn, .int .i64 mx, .int .i64 gp, .slice ka km kc] 57 (0, 0)) := by rw [hW]; refine blk_alloc ?_ _; have := alloc_last (w.alloc (.cells #[.pointer (some ⟨gb, 0, none⟩)] 71)) (.cells #[.int .i64 kd, .int .u64 (sw p 0 : Nat), .int .u64 (sw p 1 : Nat), .int .u64 (sw p 2 : Nat), .int .u64 (sw p 3 : Nat), .int .i64 mn, .int .i64 mx, .int .i64 gp, .slice ka km kc] 57); simpa using this
 have hb2 : W.heap[w.heap.size + 2]? = some (.cells #[.int .i64 (nx : Nat)] 3 (0, 0)) := by rw [hW]; have := alloc_last ((w.alloc (.cells #[.pointer (some ⟨gb, 0, none⟩)] 71)).alloc (.cells #[.int .i64 kd, .int .u64 (sw p 0 : Nat), .int .u64 (sw p 1 : Nat), .int .u64 (sw p 2 : Nat), .int .u64 (sw p 3 : Nat), .int .i64 mn, .int .i64 mx, .int .i64 gp, .slice ka km kc] 57)) (.cells #[.int .i64 (nx : Nat)] 3); simpa using this
 have hb : Below w.heap.size w W := by rw [hW]; exact (((Below.refl _ _).alloc (Nat.le_refl _) _).alloc (by simp) _).alloc (by simp; omega) _
 have HC : Hid (ChG B w W) := Lib.hid (ChG.below hb hB)
 have HG : Hid (GrAt B gb g st W) := Lib.hid (h.below hb)
 have hBW : B ≤ W.heap.size := Nat.le_trans hB hb.size
 have c0 : W.cell? ⟨w.heap.size, 0, none⟩ = some (.pointer (some ⟨gb, 0, none⟩)) := (Lib.cell_of_heap hb0 0).trans rfl
 obtain ⟨r0, r1, r2, r3, r4, r5, r6, r7, r8, rz⟩ := cells9s hb1
 have d0 : W.cell? ⟨w.heap.size + 2, 0, none⟩ = some (.int .i64 (nx : Nat)) := (Lib.cell_of_heap hb2 0).trans rfl
 have hwz : w.heap.size + 2 < W.heap.size := lt_blkB hb2
 have HP : ∀ s : St, Hid (Calls Tryz.prog 63 #[.pointer (some ⟨gb, 0, none⟩), .agg s.cells.toArray] W fun x w' => x = .returned (.int .i64 (g.length : Nat)) ∧ GrAt B gb (g ++ [s]) st w' ∧ ChG B W w') := fun s => Lib.hid (put_any B gb g st s W HG.out hBW hlen)
 have HWE := Lib.hid hW
 unfold PtQ Nd.B ndB
 clear hb0 hb1 hb2 hb h hW
 rcases hk with rfl | rfl | rfl
 ·have HP1 := HP (.eat p nx)
  unfold St.cells stC at HP1
  clear HP
  rw [if_pos rfl]
  unfold Nd.v Nd.cells
  go_enter Tryz.func39, Tryz.ntmps39
  go_upto_region 1 with fail
  rw [← HWE.out]
  go_wp2_with fail
  refine HP1.out.mono ?_
  rintro x w1 ⟨rfl, hg1, hc1⟩
  have HG1 := Lib.hid hg1
  have HC1 := Lib.hid hc1
  clear hg1 hc1
  go_wp2
  go_ret
  exact ⟨rfl, HG1.out, HC.out.trans HC1.out⟩
 ·have HP1 := HP (.beg nx)
  unfold St.cells at HP1
  rw [stC_no] at HP1
  clear HP
  rw [if_neg (show ¬ (2 : Int) = 1 by decide), if_pos rfl]
  unfold Nd.v Nd.cells
  go_enter Tryz.func39, Tryz.ntmps39
  go_upto_region 1 with fail
  rw [← HWE.out]
  go_wp2_with fail
  refine HP1.out.mono ?_
  rintro x w1 ⟨rfl, hg1, hc1⟩
  have HG1 := Lib.hid hg1
  have HC1 := Lib.hid hc1
  clear hg1 hc1
  go_wp2
  go_ret
  exact ⟨rfl, HG1.out, HC.out.trans HC1.out⟩
 ·have HP1 := HP (.fin nx)
  unfold St.cells at HP1
  rw [stC_no] at HP1
  clear HP
  rw [if_neg (show ¬ (3 : Int) = 1 by decide), if_neg (show ¬ (3 : Int) = 2 by decide), if_pos rfl]
  unfold Nd.v Nd.cells
  go_enter Tryz.func39, Tryz.ntmps39
  go_upto_region 1 with fail
  rw [← HWE.out]
  go_wp2_with fail
  refine HP1.out.mono ?_
  rintro x w1 ⟨rfl, hg1, hc1⟩
  have HG1 := Lib.hid hg1
  have HC1 := Lib.hid hc1
  clear hg1 hc1
  go_wp2
  go_ret
  exact ⟨rfl, HG1.out, HC.out.trans HC1.out⟩
end Go.Proofs.YtnpkcllbpnmabaaGreatDoor
