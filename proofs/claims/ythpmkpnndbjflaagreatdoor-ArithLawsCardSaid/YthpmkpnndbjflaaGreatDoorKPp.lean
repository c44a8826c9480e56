/- KPp: several texts in one (kmerge.py). -/
import Derived.Test.YthpmkpnndbjflaaGreatDoorKMm
import Derived.Test.YthpmkpnndbjflaaGreatDoorKCl
/- put: one instruction more (gen_acput.py). -/
namespace Go.Proofs.YthpmkpnndbjflaaGreatDoor
open Go.RowKit

/-- The state within the region: the literal row (6), the longer row (7), stored (10). -/
structure CpS (B gb k0 : Nat) (W : World) (v : Value) (n : Nat) (xs : List Value) (cs : List Value) (d6 d7 d10 : Bool) (u6 u7 : Value) (X : World) : Prop where
  ch : ChC B W X
  box : X.heap[k0]? = some (.cells cs.toArray 149 (0, 0))
  pat : d10 = false → X.heap[gb]? = some (.cells #[v] 147 (0, 0))
  row : d7 = false → X.ownsRow B 149 6 v n xs
  lit : d6 = true → d7 = false → ∃ g, u6 = .slice (some ⟨g, 0, none⟩) 1 1 ∧ X.heap[g]? = some (.cells cs.toArray 149 (0, 0))
  new : d7 = true → X.ownsRow B 149 6 u7 (n + 1) (xs ++ cs)
  pat' : d10 = true → X.heap[gb]? = some (.cells #[u7] 147 (0, 0))

set_option maxRecDepth 100000 in
set_option maxHeartbeats 8000000 in
theorem cput_any (B gb : Nat) (l : List Ins) (i : Ins) (w : World) (h : CoAt B gb l w) (hBw : B ≤ w.heap.size) (hlen : l.length ≤ 1099511627776) :
    Calls Tryz.prog 119 #[.pointer (some ⟨gb, 0, none⟩), .agg i.cells.toArray] w fun x w' => x = .returned (.int .i64 (l.length : Nat)) ∧ CoAt B gb (l ++ [i]) w' ∧ ChC B w w' := by
  obtain ⟨hB, v, hpb, hrow⟩ := h
  have hcs : i.cells = [.int .i64 i.k, .int .i64 i.n, .string i.nm, .string i.op, .int .i64 i.p, .int .i64 i.tg] := rfl
  have HR : Hid (rowI (l ++ [i]) = rowI l ++ i.cells) := Lib.hid (rowI_snoc l i)
  have HONE := Lib.hid i.one
  have HL7 := Lib.hid i.cells_len
  generalize i.cells = cs at *
  obtain ⟨i0, z0, hi, hz0, hz1, hz2, hz3⟩ := ins_parts
  have hlt : gb < w.heap.size := lt_blkA hpb
  obtain ⟨W, hW⟩ : ∃ W, W = w.alloc (.cells cs.toArray 149) := ⟨_, rfl⟩
  have hsz : W.heap.size = w.heap.size + 1 := by rw [hW]; simp
  have HCW : Hid (ChC B w W) := Lib.hid (by rw [hW]; exact (ChC.refl B w).alloc hBw _)
  have HBX : Hid (W.heap[w.heap.size]? = some (.cells cs.toArray 149 (0, 0))) := Lib.hid (by rw [hW]; exact last_A w _)
  have HPB : Hid (W.heap[gb]? = some (.cells #[v] 147 (0, 0))) := Lib.hid (by rw [hW]; exact blk_allocA hpb _)
  have HRW : Hid (W.ownsRow B 149 6 v l.length (rowI l)) := Lib.hid (by rw [hW]; exact hrow.alloc _)
  have HVK : Hid (v.ownBlock ≠ some w.heap.size) := Lib.hid (fun e => by have := (hrow.lt _ e).2; omega)
  rw [hcs] at hW
  have HWE := Lib.hid hW
  have HCS := Lib.hid hcs
  rw [hcs]
  clear hrow hpb hW hcs
  go_enter Tryz.func119, Tryz.ntmps119
  go_wp2_with fail
  rw [← HWE.out]
  refine Reg.wp_region_sto (fun L u' X => CpS B gb w.heap.size W v l.length (rowI l) cs (L 6) (L 7) (L 10) (u' 6) (u' 7) X) (fun j => ([some (.pointer (some ⟨gb, 0, none⟩)), some (.pointer (some ⟨gb, 0, none⟩)), some (.pointer (some ⟨gb, 0, none⟩)), some (.pointer (some ⟨gb, 0, none⟩)), some (v), some (.agg #[.int .i64 i.k, .int .i64 i.n, .string i.nm, .string i.op, .int .i64 i.p, .int .i64 i.tg]), none, none, some (.pointer (some ⟨gb, 0, none⟩)), some (.pointer (some ⟨gb, 0, none⟩)), none] : List (Option Value)).getD j none) (by kernel_rfl) (by kernel_rfl) (by kernel_rfl) (by kernel_rfl) ?rs0 ?rsE ?rsZ
  case rs0 => exact ⟨ChC.below (Below.refl _ _).drew (by omega), HBX.out, fun _ => HPB.out, fun _ => HRW.out, fun h => (by cases h), fun h => (by cases h), fun h => (by cases h)⟩
  case rsE =>
    refine Reg.EachG.plain rfl (fun L u' T X hL hz hS hk K hK => ?_) ?_
    · skip
      have g0 : T[0]? = some (.pointer (some ⟨gb, 0, none⟩)) := hk.old 0 (by kernel_rfl) rfl
      have hK := hK _ X hS (fun _ hx => Option.some.inj hx)
      clear hk hz hL
      go_simp
      exact hK
    refine Reg.EachG.plain rfl (fun L u' T X hL hz hS hk K hK => ?_) ?_
    · skip
      have g0 : T[0]? = some (.pointer (some ⟨gb, 0, none⟩)) := hk.old 0 (by kernel_rfl) rfl
      have hK := hK _ X hS (fun _ hx => Option.some.inj hx)
      clear hk hz hL
      go_simp
      exact hK
    refine Reg.EachG.plain rfl (fun L u' T X hL hz hS hk K hK => ?_) ?_
    · skip
      have g6 : T[6]? = some (.pointer (some ⟨gb, 0, none⟩)) := hk.val 1 6 (by kernel_rfl) (by kernel_rfl) rfl
      have hK := hK _ X hS (fun _ hx => Option.some.inj hx)
      clear hk hz hL
      go_simp
      exact hK
    refine Reg.EachG.plain rfl (fun L u' T X hL hz hS hk K hK => ?_) ?_
    · skip
      have g7 : T[7]? = some (.pointer (some ⟨gb, 0, none⟩)) := hk.val 2 7 (by kernel_rfl) (by kernel_rfl) rfl
      have hK := hK _ X hS (fun _ hx => Option.some.inj hx)
      clear hk hz hL
      go_simp
      exact hK
    refine Reg.EachG.plain rfl (fun L u' T X hL hz hS hk K hK => ?_) ?_
    · skip
      have g8 : T[8]? = some (.pointer (some ⟨gb, 0, none⟩)) := hk.val 3 8 (by kernel_rfl) (by kernel_rfl) rfl
      have hd : L 10 = false := hz 10 (by kernel_rfl)
      obtain ⟨c0, _, hbz⟩ := cells1A (hS.pat hd)
      have hK := hK _ X hS (fun _ hx => Option.some.inj hx)
      clear hk hz hL hd
      go_simp
      exact hK
    refine Reg.EachG.plain rfl (fun L u' T X hL hz hS hk K hK => ?_) ?_
    · skip
      have g3 : T[3]? = some (.pointer (some ⟨w.heap.size, 0, none⟩)) := hk.old 3 (by kernel_rfl) rfl
      have hbx := hS.box
      rw [HCS.out] at hbx
      obtain ⟨c0, c1, c2, c3, c4, c5, hbz⟩ := cells6A hbx
      have hK := hK _ X hS (fun _ hx => Option.some.inj hx)
      clear hk hz hL hbx
      go_simp
      exact hK
    refine Reg.EachG.plain rfl (fun L u' T X hL hz hS hk K hK => ?_) ?_
    · skip
      have g10 : T[10]? = some (.agg #[.int .i64 i.k, .int .i64 i.n, .string i.nm, .string i.op, .int .i64 i.p, .int .i64 i.tg]) := hk.val 5 10 (by kernel_rfl) (by kernel_rfl) rfl
      have hd7 : L 7 = false := hz 7 (by kernel_rfl)
      have hd10 : L 10 = false := hz 10 (by kernel_rfl)
      have hK := hK (.slice (some ⟨X.heap.size, 0, none⟩) 1 1) (X.alloc (.cells #[.int .i64 i.k, .int .i64 i.n, .string i.nm, .string i.op, .int .i64 i.p, .int .i64 i.tg] 149)) ⟨hS.ch.alloc (by omega) _, blk_allocA hS.box _, fun _ => blk_allocA (hS.pat hd10) _, fun _ => (hS.row hd7).alloc _, fun _ _ => ⟨_, rfl, by rw [HCS.out]; exact last_A X _⟩, fun h => (by rw [Reg.upd_ne _ _ (by decide), hd7] at h; cases h), fun h => (by rw [Reg.upd_ne _ _ (by decide), hd10] at h; cases h)⟩ (fun _ hx => by cases hx)
      clear hk hz hL hd7 hd10 hS
      go_simp
      exact hK
    refine Reg.EachG.plain rfl (fun L u' T X hL hz hS hk K hK => ?_) ?_
    · skip
      have g9 : T[9]? = some (v) := hk.val 4 9 (by kernel_rfl) (by kernel_rfl) rfl
      obtain ⟨g11, l11⟩ := hk.any 6 11 (by kernel_rfl) (by kernel_rfl)
      have hd10 : L 10 = false := hz 10 (by kernel_rfl)
      obtain ⟨gl, e6, hg⟩ := hS.lit l11 hL
      rw [e6] at g11
      refine wp_append_own X (.tmp 9) (.tmp 11) 104 rfl B 149 i0 z0 6 64 Tryz.underlying104 hi hz0 hz1 hz2 hz3 (by decide) v l.length (rowI l) (by simp [Act.eval, g9]) (hS.row hL) ⟨gl, 0, none⟩ 1 1 cs (by simp [Act.eval, g11]) HL7.out (fun j u hj => by rw [WideShapes.add_plain, Nat.zero_add, Lib.cell_of_heap hg]; simpa using hj) HONE.out (by unfold maxLen; omega) (by omega) (Nat.le_trans hBw (by have := hS.ch.bel.size; omega)) ?_
      intro v' w' hown hgr _
      exact hK v' w' ⟨hS.ch.grown (by omega) (hS.row hL) hgr, blk_grownA hS.box hgr HVK.out, fun _ => blk_grownA (hS.pat hd10) hgr (own_neA (hS.row hL) (hS.pat hd10) (by decide)), fun h => (by rw [Reg.upd_same] at h; cases h), fun _ h => (by rw [Reg.upd_same] at h; cases h), fun _ => (by rw [Reg.upd_same]; exact hown), fun h => (by rw [Reg.upd_ne _ _ (by decide), hd10] at h; cases h)⟩ (fun _ hx => by cases hx)
    refine Reg.EachG.plain rfl (fun L u' T X hL hz hS hk K hK => ?_) ?_
    · skip
      have g5 : T[5]? = some (.pointer (some ⟨gb, 0, none⟩)) := hk.val 0 5 (by kernel_rfl) (by kernel_rfl) rfl
      have hK := hK _ X hS (fun _ hx => Option.some.inj hx)
      clear hk hz hL
      go_simp
      exact hK
    refine Reg.EachG.plain rfl (fun L u' T X hL hz hS hk K hK => ?_) ?_
    · skip
      have g13 : T[13]? = some (.pointer (some ⟨gb, 0, none⟩)) := hk.val 8 13 (by kernel_rfl) (by kernel_rfl) rfl
      have hK := hK _ X hS (fun _ hx => Option.some.inj hx)
      clear hk hz hL
      go_simp
      exact hK
    refine Reg.EachG.plain rfl (fun L u' T X hL hz hS hk K hK => ?_) ?_
    · skip
      obtain ⟨g12, l12⟩ := hk.any 7 12 (by kernel_rfl) (by kernel_rfl)
      have g14 : T[14]? = some (.pointer (some ⟨gb, 0, none⟩)) := hk.val 9 14 (by kernel_rfl) (by kernel_rfl) rfl
      obtain ⟨c0, f0, hbz⟩ := cells1A (hS.pat hL)
      have hnew := hS.new l12
      have hK := hK undef (X.setCell ⟨gb, 0, none⟩ (u' 7)) ⟨hS.ch.setG (hS.pat hL) hB _ _, (Below.heap_setCell _ _ _ _ (by simp; omega)).trans hS.box, fun h => (by rw [Reg.upd_same] at h; cases h), fun h => (by rw [Reg.upd_ne _ _ (by decide), l12] at h; cases h), fun _ h => (by rw [Reg.upd_ne _ _ (by decide), l12] at h; cases h), fun _ => (by rw [Reg.upd_ne _ _ (by decide)]; exact own_setA hnew (hS.pat hL) (by decide) _ _), fun _ => (by rw [Reg.upd_ne _ _ (by decide)]; exact blk_setA (hS.pat hL))⟩ (fun _ hx => by cases hx)
      obtain ⟨a7, cap7, e7⟩ := own_shapeA hnew
      rw [e7] at hK g12
      clear hk hz hL hS hnew
      go_simp
      exact hK
    exact Reg.EachG.nil
  case rsZ =>
    intro L u' w1 hL hS hI
    have e0 : u' 0 = .pointer (some ⟨gb, 0, none⟩) := hI 0 (by decide) _ rfl
    have e1 : u' 1 = .pointer (some ⟨gb, 0, none⟩) := hI 1 (by decide) _ rfl
    have e2 : u' 2 = .pointer (some ⟨gb, 0, none⟩) := hI 2 (by decide) _ rfl
    have e3 : u' 3 = .pointer (some ⟨gb, 0, none⟩) := hI 3 (by decide) _ rfl
    have e4 : u' 4 = v := hI 4 (by decide) _ rfl
    have e5 : u' 5 = .agg #[.int .i64 i.k, .int .i64 i.n, .string i.nm, .string i.op, .int .i64 i.p, .int .i64 i.tg] := hI 5 (by decide) _ rfl
    have e8 : u' 8 = .pointer (some ⟨gb, 0, none⟩) := hI 8 (by decide) _ rfl
    have e9 : u' 9 = .pointer (some ⟨gb, 0, none⟩) := hI 9 (by decide) _ rfl
    clear hI
    simp only [Reg.putAll, Act.put, List.setIfInBounds_toArray, List.set_cons_succ, List.set_cons_zero, Nat.zero_add, Nat.reduceAdd, e0, e1, e2, e3, e4, e5, e8, e9]
    clear e0 e1 e2 e3 e4 e5 e8 e9
    have d7 := hL 7 (by decide)
    have d10 := hL 10 (by decide)
    have hnew := hS.new d7
    have hpat := hS.pat' d10
    have HC := Lib.hid (HCW.out.trans hS.ch)
    have HNEW := Lib.hid hnew
    have HPAT := Lib.hid hpat
    generalize u' 6 = y6 at *
    generalize u' 7 = y7 at *
    obtain ⟨oa, oc, rfl⟩ := own_shapeA HNEW.out
    clear hS hnew hpat d7 d10 hL u' L
    obtain ⟨c0, f0, hbz⟩ := cells1A HPAT.out
    go_wp2
    go_ret
    exact ⟨by simp, ⟨hB, _, HPAT.out, by rw [List.length_append, HR.out]; exact HNEW.out⟩, HC.out⟩
end Go.Proofs.YthpmkpnndbjflaaGreatDoor
/- What compiling a part means; a kid in its row. -/
namespace Go.Proofs.YthpmkpnndbjflaaGreatDoor
open Go.RowKit

/-- The kids of a row in memory, below B. -/
theorem RowOf.kid {w : World} {B : Nat} {kv : Value} {n : Nat} {ks : Nat → Tr} {vs : Nat → Value} (h : RowOf w (fun k => k < B) kv n (rowK ks vs n)) : ∃ g cap cur, kv = .slice (some ⟨g, 0, none⟩) n cap ∧ n ≤ cap ∧ g < B ∧ w.heap[g]? = some (.cells cur 60 (0, 0)) ∧
    ∀ i, i < n → ∀ j u, ((ks i).cells (vs i))[j]? = some u → cur[i * 6 + j]? = some u := by
  obtain ⟨g, cap, cur, e, hS, h1, h2, hg, ht⟩ := h
  refine ⟨g, cap, cur, e, h1, hS, hg, fun i hi j u hu => ?_⟩
  have hj : j < 6 := by have := (List.getElem?_eq_some_iff.1 hu).1; rwa [Tr.cells_len] at this
  have h3 := rowK_at ks vs n i j hi hj
  rw [hu, ← ht, List.getElem?_take, if_pos (by omega)] at h3
  rw [← Array.getElem?_toList]
  exact h3

/-- The state of part and of assignment: the compiler's instructions, the boxes of the receiver and of the part. -/
structure PtS (B cb x0 x1 : Nat) (w W : World) (r0 : Array Value) (t0 : TypeId) (pc : Array Value) (l : List Ins) (X : World) : Prop where
  co : CoAt B cb l X
  ch : ChC B w X
  sz : W.heap.size ≤ X.heap.size
  b0 : X.heap[x0]? = some (.cells r0 t0 (0, 0))
  b1 : X.heap[x1]? = some (.cells pc 60 (0, 0))
theorem PtS.step {B cb x0 x1 : Nat} {w W : World} {r0 : Array Value} {t0 : TypeId} {pc : Array Value} {l l' : List Ins} {X X' : World} (h : PtS B cb x0 x1 w W r0 t0 pc l X) (hg : CoAt B cb l' X') (hc : ChC B X X') (h1 : t0 ≠ 147) (h2 : t0 ≠ 149) : PtS B cb x0 x1 w W r0 t0 pc l' X' :=
  ⟨hg, h.ch.trans hc, Nat.le_trans h.sz hc.bel.size, hc.blk h.b0 h1 h2, hc.blk h.b1 (by decide) (by decide)⟩
theorem PtS.drew {B cb x0 x1 : Nat} {w W : World} {r0 : Array Value} {t0 : TypeId} {pc : Array Value} {l : List Ins} {X : World} (h : PtS B cb x0 x1 w W r0 t0 pc l X) (hB : B ≤ w.heap.size) : PtS B cb x0 x1 w W r0 t0 pc l X.drew :=
  ⟨h.co.below (Below.refl _ _).drew, h.ch.trans (ChC.below (Below.refl _ _).drew (Nat.le_trans hB h.ch.bel.size)), h.sz, h.b0, h.b1⟩

/-- Compiling a part: its code stands behind the others; nothing else that there was has changed. -/
def PartC (t : Tr) : Prop := ∀ (B cb : Nat) (kv : Value) (l : List Ins) (w : World), CoAt B cb l w → B ≤ w.heap.size → t.Lay w (fun k => k < B) kv → l.length + (comp t 0).length ≤ 1000000 →
  Calls Tryz.prog 88 #[.pointer (some ⟨cb, 0, none⟩), t.v kv] w fun x w' => x = .returned (.tuple #[]) ∧ CoAt B cb (l ++ comp t l.length) w' ∧ ChC B w w'
/-- The world behind the two boxes. -/
def box2 (w : World) (cb : Nat) (pc : Array Value) : World := (w.alloc (.cells #[.pointer (some ⟨cb, 0, none⟩)] 180)).alloc (.cells pc 60)
theorem box2_pts {B cb : Nat} {l : List Ins} {w : World} (h : CoAt B cb l w) (hB : B ≤ w.heap.size) (pc : Array Value) : PtS B cb w.heap.size (w.heap.size + 1) w (box2 w cb pc) #[.pointer (some ⟨cb, 0, none⟩)] 180 pc l (box2 w cb pc) := by
  have hb : Below w.heap.size w (box2 w cb pc) := ((Below.refl _ _).alloc (Nat.le_refl _) _).alloc (by simp) _
  refine ⟨h.below hb, ChC.below hb hB, Nat.le_refl _, blk_allocA (last_A w _) _, ?_⟩
  have h1 : (w.alloc (.cells #[.pointer (some ⟨cb, 0, none⟩)] 180)).heap.size = w.heap.size + 1 := by simp
  have := last_A (w.alloc (.cells #[.pointer (some ⟨cb, 0, none⟩)] 180)) (.cells pc 60)
  rw [h1] at this
  exact this
/-- The world behind the one box. -/
theorem box1_pts {B cb : Nat} {l : List Ins} {w : World} (h : CoAt B cb l w) (hB : B ≤ w.heap.size) (pc : Array Value) : PtS B cb w.heap.size w.heap.size w (w.alloc (.cells pc 60)) pc 60 pc l (w.alloc (.cells pc 60)) := by
  have hb : Below w.heap.size w (w.alloc (.cells pc 60)) := (Below.refl _ _).alloc (Nat.le_refl _) _
  exact ⟨h.below hb, ChC.below hb hB, Nat.le_refl _, last_A w _, last_A w _⟩
end Go.Proofs.YthpmkpnndbjflaaGreatDoor
