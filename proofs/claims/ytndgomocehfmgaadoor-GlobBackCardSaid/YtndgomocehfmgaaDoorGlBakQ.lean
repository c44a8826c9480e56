/- Proved here: for any bytes the statement that a pattern's pieces, written again and read, are those pieces, answers true, and its argument reads as before. Condition: the sentinels' variables and the listed tables read as the row lists them, which the tie gives. -/
import Derived.Test.YtndgomocehfmgaaDoorGlM3
import Derived.Test.YtndgomocehfmgaaDoorSeOpn
import Derived.Test.YtndgomocehfmgaaDoorFaSents
import Derived.Test.YtndgomocehfmgaaDoorRows
import Derived.LaidSub
import Derived.MakeChecks
import Derived.Test.YtndgomocehfmgaaDoorScOpen
import Derived.Test.YtndgomocehfmgaaDoorGlQuo
import Derived.Lib.SliceRun
import Derived.Test.YtndgomocehfmgaaDoorSeEq
import Derived.BigQuiet
import Derived.Test.YtndgomocehfmgaaDoorSeRng
import Derived.Laws.AppendOwnNone
import Derived.Laws.AppendOwn
import Derived.Maps.AppendAt
import Derived.Test.YtndgomocehfmgaaDoorCards
import Derived.Test.YtndgomocehfmgaaDoorTie
import Derived.Lay
import Derived.SizedLaws
import Derived.ProofKit
import Derived.LaidMore
import Derived.Stop.Joined
import Derived.Carry
/- From the row's condition to what stage 6's walks want. -/
namespace Go.Proofs.YtndgomocehfmgaaDoor
open Go.RowKit

theorem db_of_tz {W : World} (h : TZ W) : DB W := ⟨(h 1 (by decide)).trans rfl, (h 3 (by decide)).trans rfl, (h 7 (by decide)).trans rfl, (h 15 (by decide)).trans rfl⟩
def sentKeep (x : String × DataW Unit) : Bool := (sentNames.map (·.1)).contains x.1
def tabKeep (x : String × DataW Unit) : Bool := x.1 == "math/bits.deBruijn64tab"
theorem gl_of_laid {W : World} {L : List (String × DataW Unit)} (h1 : L.filter tabKeep = [("math/bits.deBruijn64tab", Lib.tabData .u8 bruijnZ)]) (h2 : L.filter sentKeep = sentNames.map sd) (h : laidMetH Tryd.prog L W) :
    ∃ e, Es W W.heap.size e ∧ TZ W ∧ DB W := by
  have h' := laidMetH.filter sentKeep h
  rw [h2, MakeChecks.laidMetH_plain _ _ _ (by kernel_rfl)] at h'
  obtain ⟨sl, _, hv⟩ := sents_vars h'
  have h3 := laidMetH.filter tabKeep h
  rw [h1, MakeChecks.laidMetH_plain _ _ _ (by kernel_rfl)] at h3
  have hT := tz_of_head h3
  refine ⟨fun k => sl.getD (k - 1) ⟨0, 0, none⟩, ⟨hv, ?_, Nat.le_refl _⟩, hT, db_of_tz hT⟩
  have a := World.block_lt_of_cell? _ _ (hv 21 (by omega) (by omega))
  have b := World.block_lt_of_cell? _ _ (hT 0 (by decide))
  simp at a b
  omega
end Go.Proofs.YtndgomocehfmgaaDoor
/- Slices that came in, by their bulk (the Upto form). -/
namespace Go.Proofs.YtndgomocehfmgaaDoor
open Go.RowKit

theorem bulk_one {H : Type} (d : DataW H) : 1 ≤ Rows.uptoBulk d := by
  cases d with
  | lit l => cases l <;> simp [Rows.uptoBulk]
  | nil => simp [Rows.uptoBulk]
  | ptr d => simp [Rows.uptoBulk]
  | slice elems spare => simp [Rows.uptoBulk]
  | agg parts => simp [Rows.uptoBulk]
  | iface t d => simp [Rows.uptoBulk]
  | map entries => simp [Rows.uptoBulk]
  | held h => simp [Rows.uptoBulk]
theorem bulk_len {H : Type} (l : List (DataW H)) : l.length ≤ Rows.uptoBulkAll l := by
  induction l with
  | nil => simp [Rows.uptoBulkAll]
  | cons x r ih => have := bulk_one x; simp only [Rows.uptoBulkAll, List.length_cons]; omega
theorem bulk_slice {H : Type} (elems spare : List (DataW H)) : elems.length ≤ Rows.uptoBulk (.slice elems spare) := by
  have h1 := bulk_len elems
  simp only [Rows.uptoBulk]
  omega

set_option maxRecDepth 100000 in
/-- A slice of bytes that came in: no longer than its bulk. -/
theorem sl_of_b {H : Type} {enc : TypeId × Value → H} {W : World} {base : Nat} {v : Value} {d : DataW H} {ps : List MemPlace}
    (hk : Value.okWide Tryd.prog W .any base 28 v) (h : DataW.Trod enc Tryd.prog W 0 (fun _ => true) true 28 v d ps) :
    ∃ l, Sl W v l ∧ l.length ≤ Rows.uptoBulk d := by
  obtain ⟨a0, len, cap, rfl⟩ := WideShapes.okWide_slice Tryd.underlying28 hk
  obtain ⟨fuel, hf⟩ := h
  by_cases hl0 : len = 0
  · subst hl0; exact ⟨[], ⟨fun i => by simp, by simp, Or.inl ⟨rfl, a0, cap, rfl⟩⟩, by simp⟩
  rcases ChangeShapes.open_ints Tryd.underlying28 Tryd.underlying5 (by kernel_rfl) hf with ⟨hcs, _⟩ | ⟨a, len', cap', zs, hcs, _, hl, hm, hzl, hx, hcell, hwf⟩
  · simp [Value.cells] at hcs
    exact absurd hcs.2.1 hl0
  · simp [Value.cells] at hcs
    obtain ⟨rfl, rfl, rfl⟩ := hcs
    simp only [if_true] at hzl
    obtain ⟨b, o, spot⟩ := a
    have hspot : spot = none := by simpa [Addr.add] using World.cell?_spot (hcell 0 (by omega))
    subst hspot
    have hlt : (zs.take len).length = len := by simp; omega
    have hg : ∀ i, i < len → (zs.take len).getD i 0 = zs.getD i 0 := fun i hi => by simp [List.getD, hi]
    unfold maxLen at hm
    refine ⟨zs.take len, ⟨fun i => ?_, by omega, Or.inr ⟨b, o, cap, by rw [hlt], by omega, by omega, fun i hi => ?_⟩⟩, ?_⟩
    · by_cases hi : i < len
      · rw [hg i hi]
        have : zs.getD i 0 ∈ zs := by
          rw [List.getD, List.getElem?_eq_getElem (by omega)]
          exact List.getElem_mem _
        exact byte_wf (hwf _ this)
      · rw [List.getD, List.getElem?_eq_none (by omega)]; simp
    · rw [hlt] at hi
      have := hcell i (by omega)
      rw [WideShapes.add_plain] at this
      rw [hg i hi]
      exact this
    · simp only [Prod.mk.injEq] at hx
      rw [hx.1]
      refine Nat.le_trans ?_ (bulk_slice _ _)
      simp [ChangeShapes.lits]

set_option maxRecDepth 100000 in
/-- A nil slice that came in has no length and no capacity. -/
theorem sl_nil2 {H : Type} {enc : TypeId × Value → H} {W : World} {base : Nat} {v : Value} {d : DataW H} {ps : List MemPlace}
    (hk : Value.okWide Tryd.prog W .any base 28 v) (h : DataW.Trod enc Tryd.prog W 0 (fun _ => true) true 28 v d ps) (n cap : Nat) (e : v = .slice none n cap) : n = 0 ∧ cap = 0 := by
  subst e
  obtain ⟨fuel, hf⟩ := h
  rcases ChangeShapes.open_ints Tryd.underlying28 Tryd.underlying5 (by kernel_rfl) hf with ⟨hcs, _⟩ | ⟨a, len', cap', zs, hcs, _⟩
  · simp [Value.cells] at hcs
    exact hcs
  · simp [Value.cells] at hcs

end Go.Proofs.YtndgomocehfmgaaDoor
/- GlobQuotes: Pieces, the walk, opened. -/
namespace Go.Proofs.YtndgomocehfmgaaDoor
open Go.RowKit

theorem own_any {w : World} {B : Nat} {e : TypeId} {s : Nat} {v : Value} {n : Nat} {xs : List Value} (h : w.ownsRow B e s v n xs) : ∃ a0 cap, v = .slice a0 n cap := own_shapeK h

set_option maxRecDepth 100000 in
set_option maxHeartbeats 8000000 in
/-- A copy of the pieces. -/
theorem pieces_any (B b : Nat) (ps : List Pc) (w : World) (h : PatAt B b ps w) (hl : ps.length ≤ 1048576) :
    Calls Tryd.prog 22 #[.pointer (some ⟨b, 0, none⟩)] w fun x w' => ∃ v, x = .returned v ∧ w'.ownsRow w.heap.size 58 5 v ps.length (cellsL ps) ∧ Below w.heap.size w w' := by
  obtain ⟨hB, v, u, hpb, hrow, hplain⟩ := h
  obtain ⟨i0, z0, hi, hz0, hz1, hz2, hz3⟩ := piece_parts
  obtain ⟨⟨c0, c1⟩, _, hbz⟩ := cells2 hpb
  have q48 : ∀ (w : World) (a : Option Addr) (n c n' c' : Nat), (binOp .eql 48 (.slice a n c) (.slice none n' c')).run Tryd.prog w = .ok (.bool a.isNone) w := fun w a n c n' c' => Lib.run_eql_slice_nil w _ _ a n c n' c' Tryd.underlying48
  have HC : Hid (Calls Tryd.prog 51 #[v] w fun x w' => ∃ v, x = .returned v ∧ w'.ownsRow w.heap.size 58 5 v ps.length (cellsL ps) ∧ Below w.heap.size w w') := by
    rcases hrow.2 with ⟨rfl, h0⟩ | ⟨g, cap, cur, rfl, hgl, hgb, hnc, hcm, hcz, htk⟩
    · have hp : ps = [] := List.length_eq_zero_iff.1 h0
      subst hp
      clear hrow hplain hpb
      refine Lib.hid ?_
      go_enter Tryd.func51, Tryd.ntmps51
      go_wp2
      go_ret
      exact ⟨_, rfl, World.ownsRow_nil _ _ _ _, Below.refl _ _⟩
    · have hnews : ∀ j y, (cellsL ps)[j]? = some y → (w.alloc (.cells #[] 58)).cell? ((⟨g, 0, none⟩ : Addr).add j) = some y := fun j y hj => by
        have h1 := (hrow.alloc (.cells #[] 58)).cells (g := g) rfl j y hj
        exact h1
      have hone : ∀ y ∈ cellsL ps, y.oneCell' = true := fun y hy => by
        unfold cellsL at hy
        obtain ⟨x, hx, hyx⟩ := List.mem_flatten.1 hy
        obtain ⟨p, _, rfl⟩ := List.mem_map.1 hx
        exact one5 _ _ _ _ _ y hyx
      have hown0 := World.ownsRow_made (base := w.heap.size) (e := 58) (size := 5) w #[] 0 (Nat.le_refl _) (by unfold maxLen; omega) rfl
      have HN := Lib.hid hnews
      have HON := Lib.hid hone
      have HO0 := Lib.hid hown0
      have hcl := cellsL_len ps
      have HCL := Lib.hid hcl
      clear hrow hplain hpb hnews hone hown0 hgb hcz htk hcl
      refine Lib.hid ?_
      go_enter Tryd.func51, Tryd.ntmps51
      go_wp2_with (at_builtin; refine wpList_append_own _ rfl _ _ 48 rfl w.heap.size 58 i0 z0 5 40 Tryd.underlying48 hi hz0 hz1 hz2 hz3 (by decide) _ _ _ rfl HO0.out ⟨g, 0, none⟩ ps.length cap (cellsL ps) rfl HCL.out HN.out HON.out (by unfold maxLen; omega) (by omega) (by simp) ?_)
      intro v' w4 hown' hgr _
      have HE : Hid (w4.ownsRow w.heap.size 58 5 v' ps.length (cellsL ps) ∧ Below w.heap.size w w4) := Lib.hid ⟨by simpa using hown', ((Below.refl w.heap.size w).alloc (Nat.le_refl _) _).grown hgr (by simp) (fun k hk => (HO0.out.lt k hk).1)⟩
      clear hown' hgr
      go_wp2
      go_ret
      exact ⟨_, rfl, HE.out.1, HE.out.2⟩
  clear hrow hplain hpb
  obtain ⟨vv, hvv⟩ : ∃ vv, vv = v := ⟨_, rfl⟩
  go_enter Tryd.func22, Tryd.ntmps22
  go_wp2_with fail
  refine HC.out.mono ?_
  rintro x w1 ⟨v', rfl, hown, hb1⟩
  have HE : Hid (w1.ownsRow w.heap.size 58 5 v' ps.length (cellsL ps) ∧ Below w.heap.size w w1) := Lib.hid ⟨hown, hb1⟩
  clear hown hb1
  go_wp2
  go_ret
  exact ⟨_, rfl, HE.out.1, HE.out.2⟩
end Go.Proofs.YtndgomocehfmgaaDoor
/- Two rows of pieces that are the same, compared by the law's loop. -/
namespace Go.Proofs.YtndgomocehfmgaaDoor
open Go.RowKit

set_option maxRecDepth 100000 in
theorem neq_piece (k a b c d : Int) (w : World) :
    (binOp .neq 58 (.agg #[.int .i64 k, .int .u64 a, .int .u64 b, .int .u64 c, .int .u64 d]) (.agg #[.int .i64 k, .int .u64 a, .int .u64 b, .int .u64 c, .int .u64 d])).run Tryd.prog w = .ok (.bool false) w := by
  have hf : (Tryd.prog.fieldsOf 58).toList.map (fun f => (f.name, f.type, f.offset)) = [("Kind", 3, 0), ("Set", 24, 1)] := by kernel_rfl
  have hu : Tryd.prog.underlying 58 = some (.struct (Tryd.prog.fieldsOf 58)) := by kernel_rfl
  have hs : Tryd.prog.stoodInHeld 58 = false := by kernel_rfl
  obtain ⟨f0, r0, e0, hf0, hr0⟩ := List.map_eq_cons_iff.1 hf
  obtain ⟨f1, r1, e1, hf1, hr1⟩ := List.map_eq_cons_iff.1 hr0
  have er : r1 = [] := List.map_eq_nil_iff.1 hr1
  subst er
  subst e1
  simp only [Prod.mk.injEq] at hf0 hf1
  have hp0 : ∀ (k a b c d : Value) (w : World), (part 3 #[k, a, b, c, d] 0).run Tryd.prog w = .ok k w := fun k a b c d w => by kernel_rfl
  have hp1 : ∀ (k a b c d : Value) (w : World), (part 24 #[k, a, b, c, d] 1).run Tryd.prog w = .ok (.agg #[a, b, c, d]) w := fun k a b c d w => by kernel_rfl
  have hi : ∀ (d : Nat) (a b : Int) (w : World), (Op.equalIn (d + 1) 3 (.int .i64 a) (.int .i64 b)).run Tryd.prog w = .ok (a == b) w := fun d a b w => run_equalIn_int w d _ .i64 .i64 a b Tryd.underlying3
  rw [run_neq_struct, show (10000 : Nat) = 9999 + 1 from rfl, run_equalIn_agg w 9999 _ _ _ hu hs, e0]
  simp only [Op.eqFields, hf0.1, hf0.2.1, hf0.2.2, hf1.1, hf1.2.1, hf1.2.2]
  have hi9 := fun (a b : Int) (w : World) => hi 9998 a b w
  have he9 := fun (x0 x1 x2 x3 y0 y1 y2 y3 : Int) (w : World) => eq_arr 9997 x0 x1 x2 x3 y0 y1 y2 y3 w
  simp [Sem.run_bind, Sem.run_ite, hp0, hp1, hi9, he9]

set_option maxRecDepth 100000 in
set_option maxHeartbeats 8000000 in
theorem same_any (va vb : Value) (ps : List Pc) (Ba Bb : Nat) (w : World) (ha : w.ownsRow Ba 58 5 va ps.length (cellsL ps)) (hb : w.ownsRow Bb 58 5 vb ps.length (cellsL ps)) (hl : ps.length ≤ 1048576) :
    Calls Tryd.prog 27 #[va, vb] w fun x w' => x = .returned (.bool true) ∧ Below w.heap.size w w' := by
  have HA := Lib.hid ha
  have HB := Lib.hid hb
  obtain ⟨n, hn⟩ : ∃ n, n = ps.length := ⟨_, rfl⟩
  have HN := Lib.hid hn
  obtain ⟨av, acap, hva⟩ := own_shapeK ha
  obtain ⟨bv, bcap, hvb⟩ := own_shapeK hb
  rw [← hn] at hl hva hvb
  subst hva
  subst hvb
  have NE := neq_piece
  clear ha hb hn
  go_enter Tryd.func27, Tryd.ntmps27
  go_wp2
  go_loopw [13] (fun i X => ∃ k, i = .int .i64 (k : Nat) ∧ k ≤ n ∧ Below w.heap.size w X) (fun i _ => n - (intOf i).toNat)
  case atStart => exact ⟨0, rfl, Nat.zero_le _, Below.refl _ _⟩
  case round =>
    obtain ⟨k, rfl, hk, hbl⟩ := hrel
    have HBL := Lib.hid hbl
    clear hbl
    by_cases hlt : k < n
    · have hltL : k < ps.length := by rw [← HN.out]; exact hlt
      obtain ⟨x, hx⟩ : ∃ x, ps[k]? = some x := ⟨ps[k], List.getElem?_eq_getElem hltL⟩
      have hro := HA.out
      have hrb := HB.out
      rw [← HN.out] at hro hrb
      obtain ⟨g, hg⟩ : ∃ g, av = some ⟨g, 0, none⟩ := by
        rcases hro.2 with ⟨_, h0⟩ | ⟨g, cap', cur, e, _⟩
        · omega
        · simp only [Value.slice.injEq] at e
          exact ⟨g, e.1⟩
      subst hg
      obtain ⟨g', hg'⟩ : ∃ g', bv = some ⟨g', 0, none⟩ := by
        rcases hrb.2 with ⟨_, h0⟩ | ⟨g', cap', cur, e, _⟩
        · omega
        · simp only [Value.slice.injEq] at e
          exact ⟨g', e.1⟩
      subst hg'
      have hro2 := own_drop hro HBL.out
      have hrb2 := own_drop hrb HBL.out
      have p0 := row_at hro2 hx 0 (by decide) _ rfl
      have p1 := row_at hro2 hx 1 (by decide) _ rfl
      have p2 := row_at hro2 hx 2 (by decide) _ rfl
      have p3 := row_at hro2 hx 3 (by decide) _ rfl
      have p4 := row_at hro2 hx 4 (by decide) _ rfl
      have q0 := row_at hrb2 hx 0 (by decide) _ rfl
      have q1 := row_at hrb2 hx 1 (by decide) _ rfl
      have q2 := row_at hrb2 hx 2 (by decide) _ rfl
      have q3 := row_at hrb2 hx 3 (by decide) _ rfl
      have q4 := row_at hrb2 hx 4 (by decide) _ rfl
      rw [Nat.add_zero] at p0 q0
      have hkI : (k : Int) < (n : Int) := by omega
      clear hro hro2 hrb hrb2 hx
      go_wp2_with fail
      go_quiet (fail)
      go_wp2_with fail
      go_roundw
      case rel => exact ⟨k + 1, by go_num, by omega, below_drewN HBL.out _⟩
      case measure => simp [intOf]; omega
    · have hke : k = n := by omega
      subst hke
      go_wp2
      go_ret
      exact ⟨rfl, HBL.out⟩
end Go.Proofs.YtndgomocehfmgaaDoor
/- Appends to a row of one's own: any slice of bytes, any row of pieces. -/
namespace Go.Proofs.YtndgomocehfmgaaDoor
open Go.RowKit

theorem app_bytes {w : World} {ops : Array Oper} {rest : List Oper} {o : Oper} {a : Act} {Q : Exit → Act → World → Prop} (hgd : o.guard = none) (s x : Operand)
    (ho : o.op = .call { callee := .builtin .append, args := #[s, x], argTypes := #[28, 28] })
    (base : Nat) (v : Value) (n : Nat) (xs : List Value) (hs : a.eval s = v) (hown : w.ownsRow base 5 1 v n xs) (vx : Value) (l : List Int) (hx : a.eval x = vx) (hsl : Sl w vx l) (hnil : ∀ n c, vx = .slice none n c → n = 0 ∧ c = 0)
    (h63 : n + l.length ≤ 1048576) (hbase : base ≤ w.heap.size)
    (h : ∀ v' w', w'.ownsRow base 5 1 v' (n + l.length) (xs ++ l.map (Value.int .u8)) → Below base w w' → wpList Tryd.prog ops Q rest (a.put o.dst v') w') : wpList Tryd.prog ops Q (o :: rest) a w := by
  obtain ⟨i0, hi, hz0, hz1, hz2⟩ := info_parts byte_row
  have key : ∀ ad c, vx = .slice (some ad) l.length c → wpList Tryd.prog ops Q (o :: rest) a w := fun ad c e => by
    subst e
    exact wpList_append_own w hgd s x _ ho base 5 i0 (.int .u8 0) 1 1 Tryd.underlying28 hi hz0 hz1 hz2 rfl (by decide) v n xs hs hown ad l.length c (l.map (Value.int .u8)) hx (by simp) (newsB hsl).2 (oneB l) (by unfold maxLen; omega) (by omega) hbase
      (fun v' w' h1 h2 _ => h v' w' h1 ((Below.refl base w).grown h2 hbase (fun k hk => (hown.lt k hk).1)))
  rcases hsl.shape with ⟨rfl, ad, cap, e⟩ | ⟨b, of, cap, e, _, _, _⟩
  · cases ad with
    | some ad => exact key ad cap e
    | none =>
      obtain ⟨_, hc⟩ := hnil 0 cap e
      subst hc
      exact wpList_append_own_none hgd s x _ ho base 5 i0 1 Tryd.underlying28 hi v n xs hs hown (by rw [hx, e]) (h v w (by simpa using hown) (Below.refl _ _))
  · exact key _ cap e

theorem cells_one (ps : List Pc) : ∀ y ∈ cellsL ps, y.oneCell' = true := fun y hy => by
  unfold cellsL at hy
  obtain ⟨x, hx, hyx⟩ := List.mem_flatten.1 hy
  obtain ⟨p, _, rfl⟩ := List.mem_map.1 hx
  exact one5 _ _ _ _ _ y hyx
theorem cellsL_app (ps qs : List Pc) : cellsL (ps ++ qs) = cellsL ps ++ cellsL qs := by unfold cellsL; simp

theorem app_pieces {w : World} {ops : Array Oper} {rest : List Oper} {o : Oper} {a : Act} {Q : Exit → Act → World → Prop} (hgd : Region.wanted o (yielded ops a.tmps) = true) (s x : Operand)
    (ho : o.op = .call { callee := .builtin .append, args := #[s, x], argTypes := #[48, 48] })
    (base : Nat) (v : Value) (n : Nat) (ps : List Pc) (hs : a.eval s = v) (hown : w.ownsRow base 58 5 v n (cellsL ps)) (vx : Value) (B : Nat) (qs : List Pc) (hx : a.eval x = vx) (hrow : w.ownsRow B 58 5 vx qs.length (cellsL qs))
    (h63 : n + qs.length ≤ 1048576) (hbase : base ≤ w.heap.size)
    (h : ∀ v' w', w'.ownsRow base 58 5 v' (n + qs.length) (cellsL (ps ++ qs)) → Below base w w' → wpList Tryd.prog ops Q rest (a.put o.dst v') w') : wpList Tryd.prog ops Q (o :: rest) a w := by
  obtain ⟨i0, z0, hi, hz0, hz1, hz2, hz3⟩ := piece_parts
  refine wpList_step fun K hK => ?_
  rw [if_pos hgd]
  rcases hrow.2 with ⟨rfl, h0⟩ | ⟨g, cap, cur, rfl, hgl, hgb, hnc, hcm, hcz, htk⟩
  · have hq : qs = [] := List.length_eq_zero_iff.1 h0
    subst hq
    have hrun := run_append_owned_none (P := Tryd.prog) (w := w) base 48 o.type 58 i0 5 Tryd.underlying48 hi v n _ hown
    unfold Oper.wp
    simp [execOp, ho, resolve, invoke, builtin, hs, hx, hrun, Result.andThen]
    exact hK _ _ (h v w (by simpa using hown) (Below.refl _ _))
  · exact wp_append_own w s x _ ho base 58 i0 z0 5 40 Tryd.underlying48 hi hz0 hz1 hz2 hz3 (by decide) v n _ hs hown ⟨g, 0, none⟩ qs.length cap (cellsL qs) hx (cellsL_len qs) (fun j y hj => hrow.cells (g := g) rfl j y hj) (cells_one qs) (by unfold maxLen; omega) (by omega) hbase
      (fun v' w' h1 h2 _ => hK _ _ (h v' w' (by rw [cellsL_app]; exact h1) ((Below.refl base w).grown h2 hbase (fun k hk => (hown.lt k hk).1))))

/-- Where the text a is open to its end: so far as it was read. -/
theorem openJ_fuel (a : List Int) : ∀ n m k, a.length - k < n → a.length - k < m → openJ a n k = openJ a m k
  | 0, _, _, h, _ => absurd h (by omega)
  | _ + 1, 0, _, _, h => absurd h (by omega)
  | n + 1, m + 1, k, h1, h2 => by
    unfold openJ
    by_cases hk : k < a.length
    · rw [if_pos hk, if_pos hk]
      split
      · rfl
      split
      · split
        · rfl
        · exact openJ_fuel a n m _ (by omega) (by omega)
      · exact openJ_fuel a n m _ (by omega) (by omega)
    · rw [if_neg hk, if_neg hk]
def JJ (a : List Int) (k : Nat) : Prop := openJ a (a.length + 1) k = true → openJ a (a.length + 1) 0 = true
theorem JJ.one {a : List Int} {k : Nat} (h : JJ a k) (hk : k < a.length) (h91 : ¬ a.getD k 0 = 91) (h92 : ¬ a.getD k 0 = 92) : JJ a (k + 1) := fun h1 => h (by
  rw [openJ, if_pos hk, if_neg h91, if_neg h92, openJ_fuel a a.length (a.length + 1) (k + 1) (by omega) (by omega)]
  exact h1)
theorem JJ.two {a : List Int} {k : Nat} (h : JJ a k) (hk : k < a.length) (h92 : a.getD k 0 = 92) (hk1 : ¬ k + 1 = a.length) : JJ a (k + 2) := fun h1 => h (by
  rw [openJ, if_pos hk, if_neg (by rw [h92]; decide), if_pos h92, if_neg hk1, openJ_fuel a a.length (a.length + 1) (k + 2) (by omega) (by omega)]
  exact h1)
theorem JJ.all {a : List Int} (h : JJ a a.length) : openJ a (a.length + 1) 0 = true := h (by rw [openJ, if_neg (Nat.lt_irrefl _)])
end Go.Proofs.YtndgomocehfmgaaDoor
/- A pattern's pieces, written again and read (pure). -/
namespace Go.Proofs.YtndgomocehfmgaaDoor
open Go.RowKit

def flat2 (cs : List Int) : List Int := (cs.map fun c => [92, c]).flatten
theorem flat2_cons (c : Int) (cs : List Int) : flat2 (c :: cs) = 92 :: c :: flat2 cs := rfl
theorem flat2_len (cs : List Int) : (flat2 cs).length = 2 * cs.length := by
  induction cs with
  | nil => rfl
  | cons c cs ih => rw [flat2_cons]; simp only [List.length_cons, ih]; omega
theorem flat2_snoc (cs : List Int) (c : Int) : flat2 (cs ++ [c]) = flat2 cs ++ [92, c] := by unfold flat2; simp
theorem flat2_mem {cs : List Int} {x : Int} (h : x ∈ flat2 cs) : x = 92 ∨ x ∈ cs := by
  unfold flat2 at h
  obtain ⟨l, hl, hx⟩ := List.mem_flatten.1 h
  obtain ⟨c, hc, rfl⟩ := List.mem_map.1 hl
  simp only [List.mem_cons, List.not_mem_nil, or_false] at hx
  rcases hx with rfl | rfl
  · exact Or.inl rfl
  · exact Or.inr hc
/-- A piece, written again. -/
def backP : Pc → List Int
  | .many => [42]
  | .one => [63]
  | .byt p => if (byL p 256).length = 1 then 92 :: byL p 256 else 91 :: (flat2 (byL p 256) ++ [93])
theorem backP_byt (p : Nat → Bool) : backP (.byt p) = if (byL p 256).length = 1 then 92 :: byL p 256 else 91 :: (flat2 (byL p 256) ++ [93]) := rfl
def backL (ps : List Pc) : List Int := (ps.map backP).flatten
theorem backL_cons (x : Pc) (ps : List Pc) : backL (x :: ps) = backP x ++ backL ps := rfl
theorem backL_snoc (ps : List Pc) (x : Pc) : backL (ps ++ [x]) = backL ps ++ backP x := by unfold backL; simp
theorem backP_len (x : Pc) : (backP x).length ≤ 514 := by
  cases x with
  | many => simp [backP]
  | one => simp [backP]
  | byt p =>
    have := byL_len p 256
    rw [backP_byt]
    split
    · simp only [List.length_cons]; omega
    · simp only [List.length_cons, List.length_append, flat2_len, List.length_nil]; omega
theorem backL_len (ps : List Pc) : (backL ps).length ≤ 514 * ps.length := by
  induction ps with
  | nil => simp [backL]
  | cons x ps ih => have := backP_len x; rw [backL_cons]; simp only [List.length_append, List.length_cons]; omega
theorem byL_bnd {p : Nat → Bool} {c : Int} (h : c ∈ byL p 256) : 0 ≤ c ∧ c ≤ 255 := by have := byL_mem h; omega
theorem backP_mem {x : Pc} {c : Int} (h : c ∈ backP x) : 0 ≤ c ∧ c ≤ 255 := by
  cases x with
  | many => simp [backP] at h; omega
  | one => simp [backP] at h; omega
  | byt p =>
    rw [backP_byt] at h
    split at h
    · rcases List.mem_cons.1 h with rfl | h
      · omega
      · exact byL_bnd h
    · rcases List.mem_cons.1 h with rfl | h
      · omega
      · rcases List.mem_append.1 h with h | h
        · rcases flat2_mem h with rfl | h
          · omega
          · exact byL_bnd h
        · simp at h; omega
theorem backL_byt (ps : List Pc) : Byt (backL ps) := byt_of fun c hc => by
  unfold backL at hc
  obtain ⟨l, hl, hx⟩ := List.mem_flatten.1 hc
  obtain ⟨x, _, rfl⟩ := List.mem_map.1 hl
  exact backP_mem hx

def ors (cs : List Int) (q : Nat → Bool) : Nat → Bool := cs.foldl (fun p c => orP p (rng c.toNat c.toNat)) q
theorem ors_mem (cs : List Int) (h : ∀ c ∈ cs, 0 ≤ c) : ∀ (q : Nat → Bool) (k : Nat), ors cs q k = (q k || mem cs k) := by
  induction cs with
  | nil => intro q k; simp [ors, mem]
  | cons c cs ih =>
    intro q k
    have hc := h c (by simp)
    have := ih (fun d hd => h d (by simp [hd])) (orP q (rng c.toNat c.toNat)) k
    unfold ors at this ⊢
    rw [List.foldl_cons, this]
    unfold orP rng mem
    rw [Bool.eq_iff_iff]
    simp only [Bool.or_eq_true, Bool.and_eq_true, decide_eq_true_eq, List.mem_cons]
    constructor
    · rintro ((h | ⟨h1, h2⟩) | h)
      · exact Or.inl h
      · exact Or.inr (Or.inl (by omega))
      · exact Or.inr (Or.inr h)
    · rintro (h | h | h)
      · exact Or.inl (Or.inl h)
      · exact Or.inl (Or.inr (by omega))
      · exact Or.inr h
/-- The piece that is read where such a one was written. -/
def can : Pc → Pc
  | .many => .many
  | .one => .one
  | .byt p => .byt (if (byL p 256).length = 1 then mem (byL p 256) else ors (byL p 256) noP)
theorem can_set (x : Pc) (k : Nat) (hk : k < 256) : (can x).set k = x.set k := by
  cases x with
  | many => rfl
  | one => rfl
  | byt p =>
    show (if (byL p 256).length = 1 then mem (byL p 256) else ors (byL p 256) noP) k = p k
    split
    · exact mem_byL p k hk
    · rw [ors_mem _ (fun c hc => (byL_bnd hc).1), show mem (byL p 256) k = p k from mem_byL p k hk]
      rfl
theorem can_kind (x : Pc) : (can x).kind = x.kind := by cases x <;> rfl
theorem sw_congr {p q : Nat → Bool} (h : ∀ c, c < 256 → p c = q c) (i : Nat) (hi : i < 4) : sw p i = sw q i := wd_congr fun j hj => h _ (by omega)
theorem can_cells (x : Pc) : (can x).cells = x.cells := by
  unfold Pc.cells
  rw [can_kind, sw_congr (can_set x) 0 (by decide), sw_congr (can_set x) 1 (by decide), sw_congr (can_set x) 2 (by decide), sw_congr (can_set x) 3 (by decide)]
theorem can_cellsL (ps : List Pc) : cellsL (ps.map can) = cellsL ps := by
  unfold cellsL
  rw [List.map_map]
  congr 1
  exact List.map_congr_left fun x _ => can_cells x

theorem fstN_congr {p q : Nat → Bool} (h : ∀ c, c < 256 → p c = q c) : ∀ n k, k + n ≤ 256 → fstN p n k = fstN q n k
  | 0, _, _ => rfl
  | n + 1, k, hk => by
    unfold fstN
    rw [h k (by omega), fstN_congr h n (k + 1) (by omega)]
theorem fst_congr {p q : Nat → Bool} (h : ∀ c, c < 256 → p c = q c) (k : Nat) : fst p k = fst q k := by
  unfold fst
  by_cases hk : k ≤ 256
  · exact fstN_congr h _ _ (by omega)
  · rw [show 256 - k = 0 by omega]; rfl
theorem runsN_congr {p q : Nat → Bool} (h : ∀ c, c < 256 → p c = q c) : ∀ n k, runsN p n k = runsN q n k
  | 0, _ => rfl
  | n + 1, k => by
    have hn : ∀ c, c < 256 → notP p c = notP q c := fun c hc => by unfold notP; rw [h c hc]
    unfold runsN
    rw [fst_congr h k, fst_congr hn, runsN_congr h n]
theorem textL_congr {p q : Nat → Bool} (h : ∀ c, c < 256 → p c = q c) : textL p = textL q := by
  unfold textL runs
  rw [runsN_congr h]
theorem can_word (x : Pc) : wordL (can x) = wordL x := by
  cases x with
  | many => rfl
  | one => rfl
  | byt p => exact textL_congr (can_set (.byt p))
theorem can_text (ps : List Pc) : textG (ps.map can) = textG ps := by
  unfold textG
  rw [List.map_map]
  congr 1
  exact List.map_congr_left fun x _ => can_word x

theorem atB_list {l : List Int} (h : Byt l) (k : Nat) : atB (ofBys l) k = l.getD k 0 := by unfold atB; rw [bys_ofBys h]
theorem itemR_esc (cf : ByteArray → (Nat → Bool) × Bool) (pre : List Int) (c : Int) (r : List Int) (h : Byt (pre ++ 92 :: c :: r)) :
    itemR cf (ofBys (pre ++ 92 :: c :: r)) true pre.length = .byt c (pre.length + 2) := by
  have e0 : atB (ofBys (pre ++ 92 :: c :: r)) pre.length = 92 := by rw [atB_list h, getD_mid]
  have e1 : atB (ofBys (pre ++ 92 :: c :: r)) (pre.length + 1) = c := by rw [atB_list h, getD_mid1]
  unfold itemR
  rw [e0, e1, if_neg (fun h => absurd h.1 (by decide)), if_neg (fun h => absurd h.1 (by decide)), if_pos ⟨rfl, rfl⟩, if_pos (by rw [ofBys_size]; simp)]
theorem partR_esc (cf : ByteArray → (Nat → Bool) × Bool) (pre : List Int) (c d : Int) (r : List Int) (h : Byt (pre ++ 92 :: c :: d :: r)) (hd : ¬ d = 45) :
    partR cf (ofBys (pre ++ 92 :: c :: d :: r)) true pre.length = .ok (rng c.toNat c.toNat) (pre.length + 2) := by
  have e2 : atB (ofBys (pre ++ 92 :: c :: d :: r)) (pre.length + 2) = d := by
    rw [atB_list h, List.getD, List.getElem?_append_right (by omega), show pre.length + 2 - pre.length = 2 by omega]
    rfl
  unfold partR
  rw [itemR_esc cf pre c (d :: r) h]
  simp only [e2]
  rw [if_neg (fun h => hd h.1)]
theorem brkL_esc (cf : ByteArray → (Nat → Bool) × Bool) (rest : List Int) : ∀ (cs pre : List Int) (n : Nat) (first : Bool) (q : Nat → Bool), (cs = [] → first = false) → Byt (pre ++ (flat2 cs ++ 93 :: rest)) → cs.length < n →
    brkL cf (ofBys (pre ++ (flat2 cs ++ 93 :: rest))) true n pre.length first q = .ok (ors cs q) (pre.length + (flat2 cs).length + 1)
  | _, _, 0, _, _, _, _, hn => absurd hn (by omega)
  | [], pre, n + 1, first, q, hf, hb, _ => by
    have e0 : atB (ofBys (pre ++ (flat2 [] ++ 93 :: rest))) pre.length = 93 := by rw [atB_list hb]; exact getD_mid pre 93 rest
    unfold brkL
    rw [if_pos ⟨hf rfl, e0⟩]
    rfl
  | c :: cs, pre, n + 1, first, q, _, hb, hn => by
    have e0 : atB (ofBys (pre ++ (flat2 (c :: cs) ++ 93 :: rest))) pre.length = 92 := by rw [atB_list hb]; exact getD_mid pre 92 _
    have hp : partR cf (ofBys (pre ++ (flat2 (c :: cs) ++ 93 :: rest))) true pre.length = .ok (rng c.toNat c.toNat) (pre.length + 2) := by
      cases cs with
      | nil => exact partR_esc cf pre c 93 rest hb (by decide)
      | cons d cs => exact partR_esc cf pre c 92 _ hb (by decide)
    have ih := brkL_esc cf rest cs (pre ++ [92, c]) n false (orP q (rng c.toNat c.toNat)) (fun _ => rfl) (by rw [List.append_assoc]; exact hb) (by simp at hn; omega)
    unfold brkL
    rw [if_neg (fun h => absurd (e0.symm.trans h.2) (by decide)), hp]
    simp only
    rw [List.append_assoc, List.length_append] at ih
    rw [show pre.length + 2 = pre.length + [92, c].length from rfl]
    refine ih.trans ?_
    rw [flat2_cons]
    show BR.ok _ _ = BR.ok _ _
    simp only [List.length_cons, List.length_nil]
    rw [show pre.length + (0 + 1 + 1) + (flat2 cs).length + 1 = pre.length + ((flat2 cs).length + 1 + 1) + 1 by omega]
    rfl
theorem brkR_esc (cf : ByteArray → (Nat → Bool) × Bool) (c : Int) (cs rest : List Int) (hb : Byt (flat2 (c :: cs) ++ 93 :: rest)) :
    brkR cf (ofBys (flat2 (c :: cs) ++ 93 :: rest)) true 0 = .ok (ors (c :: cs) noP) ((flat2 (c :: cs)).length + 1) := by
  have e0 : atB (ofBys (flat2 (c :: cs) ++ 93 :: rest)) 0 = 92 := by rw [atB_list hb]; rfl
  have h := brkL_esc cf rest (c :: cs) [] ((ofBys (flat2 (c :: cs) ++ 93 :: rest)).size + 1 - 0) true noP (fun h => by cases h) hb (by rw [ofBys_size, List.length_append, flat2_len]; simp; omega)
  unfold brkR
  rw [e0, if_neg (by simp)]
  refine (congrArg (brkT false) h).trans ?_
  simp [brkT]

def Full (ps : List Pc) : Prop := ∀ x ∈ ps, ∀ p, x = .byt p → byL p 256 ≠ []
theorem gl_back (cf : ByteArray → (Nat → Bool) × Bool) : ∀ (ps : List Pc) (a : List Int), Full ps → glN cf (a ++ backL ps) ((a ++ backL ps).length + 1) a.length = ps.map can
  | [], a, _ => by rw [glN_end _ _ _ (by simp [backL])]; rfl
  | x :: ps, a, hf => by
    have ih := gl_back cf ps (a ++ backP x) (fun y hy => hf y (by simp [hy]))
    rw [backL_cons]
    rw [List.append_assoc, show (a ++ backP x).length = a.length + (backP x).length from List.length_append] at ih
    have hs : stepG cf (a ++ (backP x ++ backL ps)) a.length = (can x, (backP x).length) := by
      cases x with
      | many => unfold stepG; rw [show (a ++ (backP .many ++ backL ps)).getD a.length 0 = 42 from getD_mid a 42 _, if_pos rfl]; rfl
      | one => unfold stepG; rw [show (a ++ (backP .one ++ backL ps)).getD a.length 0 = 63 from getD_mid a 63 _, if_neg (by decide), if_pos rfl]; rfl
      | byt p =>
        have hne := hf (.byt p) (by simp) p rfl
        rw [backP_byt]
        show stepG cf _ _ = (Pc.byt (if (byL p 256).length = 1 then mem (byL p 256) else ors (byL p 256) noP), _)
        by_cases h1 : (byL p 256).length = 1
        · obtain ⟨c, hc⟩ := List.length_eq_one_iff.1 h1
          rw [if_pos h1, if_pos h1, hc]
          unfold stepG
          rw [show (a ++ (92 :: [c] ++ backL ps)).getD a.length 0 = 92 from getD_mid a 92 _, show (a ++ (92 :: [c] ++ backL ps)).getD (a.length + 1) 0 = c from getD_mid1 a 92 c _, if_neg (by decide), if_neg (by decide), if_neg (by decide), if_pos rfl, if_pos (by simp)]
          rfl
        · rw [if_neg h1, if_neg h1]
          have hbb : ∀ c ∈ byL p 256, 0 ≤ c ∧ c ≤ 255 := fun c hc => byL_bnd hc
          obtain ⟨c, cs, hc⟩ : ∃ c cs, byL p 256 = c :: cs := List.exists_cons_of_ne_nil hne
          rw [hc] at hbb ⊢
          have hb : Byt (flat2 (c :: cs) ++ 93 :: backL ps) := byt_append (byt_of fun x hx => by
            rcases flat2_mem hx with rfl | hx
            · omega
            · exact hbb x hx) (byt_of fun x hx => by
            rcases List.mem_cons.1 hx with rfl | hx
            · omega
            · exact byt_mem (backL_byt ps) hx)
          have e : a ++ (91 :: (flat2 (c :: cs) ++ [93]) ++ backL ps) = a ++ 91 :: (flat2 (c :: cs) ++ 93 :: backL ps) := by simp
          rw [e]
          unfold stepG
          have hd : (a ++ 91 :: (flat2 (c :: cs) ++ 93 :: backL ps)).drop (a.length + 1) = flat2 (c :: cs) ++ 93 :: backL ps := by
            rw [List.drop_append, List.drop_of_length_le (by omega), show a.length + 1 - a.length = 1 by omega]
            rfl
          rw [getD_mid, if_neg (by decide), if_neg (by decide), if_pos rfl, hd, brkR_esc cf c cs _ hb]
          show (_, _) = (_, _)
          simp only [List.length_cons, List.length_append, List.length_nil]
          rw [Nat.add_comm 1]
    have hpos : 0 < (backP x).length := by
      cases x with
      | many => decide
      | one => decide
      | byt p => rw [backP_byt]; split <;> simp
    rw [glN_step _ _ _ (by simp only [List.length_append]; omega), hs]
    exact congrArg (can x :: ·) ih
theorem glP_back (cf : ByteArray → (Nat → Bool) × Bool) (ps : List Pc) (h : Full ps) : glP cf (backL ps) = ps.map can := gl_back cf ps [] h
end Go.Proofs.YtndgomocehfmgaaDoor
/- GlobBack: its walk, opened. -/
namespace Go.Proofs.YtndgomocehfmgaaDoor
open Go.RowKit

theorem app_lit {w : World} {ops : Array Oper} {rest : List Oper} {o : Oper} {a : Act} {Q : Exit → Act → World → Prop} (hgd : o.guard = none) (s x : Operand)
    (ho : o.op = .call { callee := .builtin .append, args := #[s, x], argTypes := #[28, 28] })
    (base : Nat) (v : Value) (n : Nat) (L : List Int) (hs : a.eval s = v) (hown : w.ownsRow base 5 1 v n (L.map (Value.int .u8))) (g m c : Nat) (l : List Int) (hx : a.eval x = .slice (some ⟨g, 0, none⟩) m c) (hm : l.length = m)
    (hnews : ∀ j u, (l.map (Value.int .u8))[j]? = some u → w.cell? ((⟨g, 0, none⟩ : Addr).add j) = some u)
    (h63 : n + m ≤ 1048576) (hbase : base ≤ w.heap.size)
    (h : ∀ v' w', w'.ownsRow base 5 1 v' (n + m) ((L ++ l).map (Value.int .u8)) → Below base w w' → (∀ g, g < w.heap.size → v.ownBlock ≠ some g → v'.ownBlock ≠ some g ∧ w'.heap[g]? = w.heap[g]?) → wpList Tryd.prog ops Q rest (a.put o.dst v') w') : wpList Tryd.prog ops Q (o :: rest) a w := by
  obtain ⟨i0, hi, hz0, hz1, hz2⟩ := info_parts byte_row
  refine wpList_append_own_at w hgd s x _ ho base 5 i0 (.int .u8 0) 1 1 Tryd.underlying28 hi hz0 hz1 hz2 rfl (by decide) v n _ hs hown ⟨g, 0, none⟩ m c (l.map (Value.int .u8)) hx (by simp [hm]) hnews (oneB l) (by unfold maxLen; omega) (by omega) hbase
      (fun v' w' h1 h2 _ h4 => h v' w' (by rw [List.map_append]; exact h1) ((Below.refl base w).grown h2 hbase (fun k hk => (hown.lt k hk).1)) (fun g hg hne => ⟨?_, h2.block g hg (fun e => hne e.symm)⟩))
  rcases h4 with h4 | h4
  · rw [h4]; exact hne
  · rw [h4]
    intro e
    obtain rfl := Option.some.inj e
    exact Nat.lt_irrefl _ hg
theorem news1 (X : World) (c : Int) (z : Nat × Nat) : ∀ j u, ([c].map (Value.int .u8))[j]? = some u → (X.alloc (.cells #[.int .u8 c] 5 z)).cell? ((⟨X.heap.size, 0, none⟩ : Addr).add j) = some u := by
  intro j u hj
  have hb := alloc_last X (.cells #[.int .u8 c] 5 z)
  match j, hj with
  | 0, hj =>
    simp at hj
    subst hj
    rw [WideShapes.add_plain]
    exact cell_of_row _ _ _ _ _ _ hb
theorem news2 (X : World) (c d : Int) (z : Nat × Nat) : ∀ j u, ([c, d].map (Value.int .u8))[j]? = some u → (X.alloc (.cells #[.int .u8 c, .int .u8 d] 5 z)).cell? ((⟨X.heap.size, 0, none⟩ : Addr).add j) = some u := by
  intro j u hj
  have hb := alloc_last X (.cells #[.int .u8 c, .int .u8 d] 5 z)
  match j, hj with
  | 0, hj =>
    simp at hj
    subst hj
    rw [WideShapes.add_plain]
    exact cell_of_row _ _ _ _ _ _ hb
  | 1, hj =>
    simp at hj
    subst hj
    rw [WideShapes.add_plain]
    exact cell_of_row _ _ _ _ _ _ hb

/-- The loop's state: so many pieces are written. -/
structure BkI (w1 : World) (ps : List Pc) (k : Nat) (v : Value) (X : World) : Prop where
  hk : k ≤ ps.length
  full : Full (ps.take k)
  bel : Below w1.heap.size w1 X
  own : X.ownsRow w1.heap.size 5 1 v (backL (ps.take k)).length ((backL (ps.take k)).map (Value.int .u8))
/-- The inner loop's: so many bytes. -/
structure BiI (w1 w2 : World) (L bs : List Int) (la : Option Addr) (j : Nat) (v : Value) (X : World) : Prop where
  bel : Below w1.heap.size w1 X
  size : w2.heap.size ≤ X.heap.size
  own : X.ownsRow w1.heap.size 5 1 v (L.length + 1 + 2 * j) ((L ++ 91 :: flat2 (bs.take j)).map (Value.int .u8))
  row : ∀ g, la = some ⟨g, 0, none⟩ → X.heap[g]? = w2.heap[g]? ∧ v.ownBlock ≠ some g
theorem BkI.more {w1 : World} {ps : List Pc} {k : Nat} {v v' : Value} {X X' : World} {x : Pc} (h : BkI w1 ps k v X) (hx : ps[k]? = some x) (hf : ∀ p, x = .byt p → byL p 256 ≠ []) (hb : Below w1.heap.size w1 X') {n : Nat} (hn : n = (backL (ps.take k)).length + (backP x).length)
    (ho : X'.ownsRow w1.heap.size 5 1 v' n ((backL (ps.take k) ++ backP x).map (Value.int .u8))) : BkI w1 ps (k + 1) v' X' := by
  have hk := (List.getElem?_eq_some_iff.1 hx).1
  have ht : ps.take (k + 1) = ps.take k ++ [x] := by rw [List.take_add_one, hx]; rfl
  refine ⟨hk, ?_, hb, ?_⟩
  · rw [ht]
    intro y hy p hp
    rcases List.mem_append.1 hy with hy | hy
    · exact h.full y hy p hp
    · obtain rfl := List.mem_singleton.1 hy
      exact hf p hp
  · rw [ht, backL_snoc, List.length_append, ← hn]
    exact ho

set_option maxRecDepth 100000 in
set_option maxHeartbeats 16000000 in
theorem gback_any (cf : ByteArray → (Nat → Bool) × Bool) (hcf : ClassOk cf) (e : Nat → Addr) (va : Value) (la : List Int) (w : World) (he : Es w w.heap.size e) (hT : TZ w) (hD : DB w) (hsa : Sl w va la) :
    Calls Tryd.prog 10 #[va] w fun x w' => x = .returned (.bool true) ∧ Below w.heap.size w w' := by
  have hes : ∀ X, Below w.heap.size w X → Es X X.heap.size e := fun X hX => ⟨(he.below hX).var, Nat.lt_of_lt_of_le he.low hX.size, Nat.le_refl _⟩
  have HA : ∀ X, Below w.heap.size w X → Hid (Calls Tryd.prog 24 #[] X fun x w' => x = .returned (.bool true) ∧ Below X.heap.size X w') := fun X hX => Lib.hid (awake6_any cf hcf e X (hes X hX) (hT.below hX) (hD.below hX))
  have HPR : ∀ X v l, Below w.heap.size w X → Sl X v l → l.length ≤ 256 → Hid (Calls Tryd.prog 26 #[v] X fun x w' => ∃ b, x = .returned (.tuple #[.pointer (some ⟨b, 0, none⟩), .nilIface]) ∧ PatAt X.heap.size b (glP cf l) w' ∧ Below X.heap.size X w') := fun X v l hX hv hl => Lib.hid (parse_ok cf hcf e v l X (hes X hX) (hT.below hX) hv hl)
  have HPL : ∀ X a n cap, Below w.heap.size w X → 256 < n → Hid (Calls Tryd.prog 26 #[.slice a n cap] X fun x w' => ∃ v, x = .returned (.tuple #[.pointer none, v]) ∧ ErrS w' X.heap.size e 2 2 0 v ∧ Below X.heap.size X w') := fun X a n cap hX hn => Lib.hid (parse_long e a n cap hn X (hes X hX))
  have HTX : ∀ X B b ps, Below w.heap.size w X → PatAt B b ps X → ps.length ≤ 1048576 → Hid (Calls Tryd.prog 23 #[.pointer (some ⟨b, 0, none⟩)] X fun x w' => x = .returned (strV (textG ps)) ∧ Below X.heap.size X w') := fun X B b ps hX hp hl => Lib.hid (gtext_any B b ps X hp hl (hT.below hX) (hD.below hX))
  have HBY : ∀ (x : Pc) X, Below w.heap.size w X → Hid (Calls Tryd.prog 28 #[.agg #[.int .u64 (sw x.set 0 : Nat), .int .u64 (sw x.set 1 : Nat), .int .u64 (sw x.set 2 : Nat), .int .u64 (sw x.set 3 : Nat)]] X fun e w' => ∃ v, e = .returned v ∧ w'.ownsRow X.heap.size 5 1 v (byL x.set 256).length ((byL x.set 256).map (Value.int .u8)) ∧ Below X.heap.size X w') := fun x X hX => Lib.hid (bytes_any x.set X (hT.below hX))
  have HAH := Lib.hid HA
  have HPRH := Lib.hid HPR
  have HPLH := Lib.hid HPL
  have HTXH := Lib.hid HTX
  have HBYH := Lib.hid HBY
  have HSA := Lib.hid hsa
  have HGB := Lib.hid (fun ps (h : Full ps) => glP_back cf ps h)
  have hgl := glP_len cf la
  obtain ⟨aa, ac, hva⟩ : ∃ a c, va = .slice a la.length c := by
    rcases hsa.shape with ⟨rfl, a, cap, rfl⟩ | ⟨x, o, cap, rfl, _⟩
    · exact ⟨a, cap, rfl⟩
    · exact ⟨_, cap, rfl⟩
  subst hva
  clear hcf he hT hD hsa HA HPR HPL HTX HBY hes
  obtain ⟨n0, hn0⟩ : ∃ n0, n0 = la.length := ⟨_, rfl⟩
  have HN0 := Lib.hid hn0
  rw [← hn0] at HSA hgl
  rw [← hn0]
  clear hn0
  by_cases hl : n0 ≤ 256
  · have HP := Lib.hid (HPRH.out w _ la (Below.refl _ _) HSA.out (by rw [← HN0.out]; exact hl))
    generalize glP cf la = ps at *
    go_enter Tryd.func10, Tryd.ntmps10
    go_wp2_with fail
    refine HP.out.out.mono ?_
    rintro x w0 ⟨p1, rfl, hp0, hb0⟩
    have HPC := Lib.hid (pieces_any _ _ _ w0 hp0 (by omega))
    have HP0 := Lib.hid hp0
    have HB0 := Lib.hid hb0
    clear hp0 hb0
    go_wp2_with fail
    refine HPC.out.mono ?_
    rintro x w1 ⟨pv, rfl, hownp, hb1⟩
    have HP1 := Lib.hid (HP0.out.next hb1)
    have HB1 := Lib.hid (below_thn HB0.out (Nat.le_refl _) hb1)
    have HOP := Lib.hid hownp
    obtain ⟨pa, pcap, hpv⟩ := own_shapeK hownp
    obtain ⟨n, hn⟩ : ∃ n, n = ps.length := ⟨_, rfl⟩
    have HN := Lib.hid hn
    have hnl : n ≤ 256 := by omega
    rw [← hn] at hpv
    subst hpv
    clear hownp hb1 hn hgl HPC
    have HI0 : Hid (BkI w1 ps 0 (.slice none 0 0) w1) := Lib.hid ⟨Nat.zero_le _, (fun y hy => by simp at hy), Below.refl _ _, World.ownsRow_nil _ _ _ _⟩
    go_wp2_with fail
    go_loopw [5, 28] (fun v i X => ∃ k, i = .int .i64 (k : Nat) ∧ Hid (BkI w1 ps k v X)) (fun _ i _ => n - (intOf i).toNat)
    case atStart => exact ⟨0, rfl, HI0⟩
    case round =>
      obtain ⟨k, rfl, HI⟩ := hrel
      have hk := HI.out.hk
      rw [← HN.out] at hk
      have hBz := HI.out.bel.size
      have HBw := Lib.hid (below_thn HB1.out (Nat.le_refl _) HI.out.bel)
      by_cases hlt : k < n
      · have hltL : k < ps.length := by rw [← HN.out]; exact hlt
        obtain ⟨x, hx⟩ : ∃ x, ps[k]? = some x := ⟨ps[k], List.getElem?_eq_getElem hltL⟩
        have hro := HOP.out
        rw [← HN.out] at hro
        obtain ⟨g, hg⟩ : ∃ g, pa = some ⟨g, 0, none⟩ := by
          rcases hro.2 with ⟨_, h0⟩ | ⟨g, cap', cur, e, _⟩
          · omega
          · simp only [Value.slice.injEq] at e
            exact ⟨g, e.1⟩
        subst hg
        have hro2 := own_drop hro HI.out.bel
        have p0 := row_at hro2 hx 0 (by decide) _ rfl
        have p1c := row_at hro2 hx 1 (by decide) _ rfl
        have p2 := row_at hro2 hx 2 (by decide) _ rfl
        have p3 := row_at hro2 hx 3 (by decide) _ rfl
        have p4 := row_at hro2 hx 4 (by decide) _ rfl
        rw [Nat.add_zero] at p0
        have hkI : (k : Int) < (n : Int) := by omega
        have HXX := Lib.hid hx
        clear hro hro2 hx
        go_wp2_with fail
        refine (HBYH.out x _ (HBw.out.alloc HBw.out.size _)).out.mono ?_
        rintro e' w2 ⟨lv, rfl, hown2, hb2⟩
        obtain ⟨c0, c1, c2, c3, c4⟩ := cells5 (blk_below (alloc_last wr _) hb2)
        have hzz := hb2.size
        simp only [World.size_alloc] at hzz
        have HB2 : Hid (Below w1.heap.size w1 w2) := Lib.hid (below_thn (HI.out.bel.alloc HI.out.bel.size _) (Nat.le_refl _) hb2)
        have HO2 := Lib.hid (own_drop HI.out.own (((Below.refl _ wr).alloc (Nat.le_refl _) _).trans (hb2.mono (by simp))))
        have hlen := backL_len (ps.take k)
        rw [List.length_take] at hlen
        have hlen2 : (backL (ps.take k)).length ≤ 131584 := by omega
        obtain ⟨lx, lcap, hlv⟩ := own_shapeK hown2
        have HL2 := Lib.hid hown2
        have HG2 : Hid (∀ g, lx = some ⟨g, 0, none⟩ → wr.heap.size < g ∧ g < w2.heap.size) := Lib.hid (fun g hg => by
          have := hown2.lt g (by rw [hlv, hg]; rfl)
          simp only [World.size_alloc] at this
          omega)
        have HV2 : Hid (∀ g, wr.heap.size < g → u5.ownBlock ≠ some g) := Lib.hid (fun g hg h => by have := HI.out.own.lt g h; omega)
        have HBw2 := Lib.hid (below_thn HB1.out (Nat.le_refl _) HB2.out)
        obtain ⟨m, hm⟩ : ∃ m, m = (backL (ps.take k)).length := ⟨_, rfl⟩
        have HM := Lib.hid hm
        rw [← hm] at HO2 hlen2
        clear hm hlen hb2
        obtain ⟨cl, hcl⟩ : ∃ cl, cl = (byL x.set 256).length := ⟨_, rfl⟩
        have HCL := Lib.hid hcl
        have hcl2 : cl ≤ 256 := by rw [hcl]; exact byL_len _ _
        rw [← hcl] at hlv HL2
        clear hcl hown2
        subst hlv
        have HE1 : Hid (∀ o, Below w1.heap.size w1 (w2.alloc o)) := Lib.hid (fun o => HB2.out.alloc HB2.out.size _)
        have HO3 : Hid (∀ o, (w2.alloc o).ownsRow w1.heap.size 5 1 u5 m ((backL (ps.take k)).map (Value.int .u8))) := Lib.hid (fun o => own_drop HO2.out ((Below.refl _ _).alloc (Nat.le_refl _) _))
        have hcase : x = .many ∨ x = .one ∨ ∃ p, x = .byt p := by cases x <;> simp
        rcases hcase with hxm | hxo | ⟨p, hxp⟩
        · have k3 : (x.kind == 3) = true := by rw [hxm]; rfl
          have HXM := Lib.hid hxm
          clear hxm
          generalize x.kind = kd at *
          go_wp2_with (at_builtin; refine app_lit rfl (.tmp 60) (.tmp 61) rfl w1.heap.size _ _ _ rfl (HO3.out _) _ 1 1 [42] rfl rfl (news1 _ _ _) (by omega) (HE1.out _).size ?_)
          intro v4 w4 hown4 hb4 _
          have HR : Hid (BkI w1 ps (k + 1) v4 w4) := Lib.hid (HI.out.more HXX.out (fun p hp => by rw [HXM.out] at hp; cases hp) ((HE1.out _).trans hb4) (n := m + 1) (by rw [← HM.out, HXM.out]; rfl) (by rw [HXM.out, List.map_append]; exact hown4))
          clear hown4 hb4
          go_wp2_with fail
          go_roundw
          case rel => exact ⟨k + 1, by go_num, HR⟩
          case measure => simp [intOf]; omega
        · have k3 : (x.kind == 3) = false := by rw [hxo]; rfl
          have k2 : (x.kind == 2) = true := by rw [hxo]; rfl
          have HXM := Lib.hid hxo
          clear hxo
          generalize x.kind = kd at *
          go_wp2_with (at_builtin; refine app_lit rfl (.tmp 67) (.tmp 68) rfl w1.heap.size _ _ _ rfl (HO3.out _) _ 1 1 [63] rfl rfl (news1 _ _ _) (by omega) (HE1.out _).size ?_)
          intro v4 w4 hown4 hb4 _
          have HR : Hid (BkI w1 ps (k + 1) v4 w4) := Lib.hid (HI.out.more HXX.out (fun p hp => by rw [HXM.out] at hp; cases hp) ((HE1.out _).trans hb4) (n := m + 1) (by rw [← HM.out, HXM.out]; rfl) (by rw [HXM.out, List.map_append]; exact hown4))
          clear hown4 hb4
          go_wp2_with fail
          go_roundw
          case rel => exact ⟨k + 1, by go_num, HR⟩
          case measure => simp [intOf]; omega
        · have k3 : (x.kind == 3) = false := by rw [hxp]; rfl
          have k2 : (x.kind == 2) = false := by rw [hxp]; rfl
          have HXM := Lib.hid hxp
          have HXS : Hid (x.set = p) := Lib.hid (by rw [hxp]; rfl)
          rw [HXS.out] at HL2 HCL
          clear hxp
          generalize x.kind = kd at *
          by_cases h1 : cl = 1
          · have h1b : ((cl : Int) == 1) = true := by rw [h1]; rfl
            obtain ⟨c, hc⟩ := List.length_eq_one_iff.1 (HCL.out.symm.trans h1)
            have HBP : Hid (backP x = [92, c]) := Lib.hid (by rw [HXM.out, backP_byt, if_pos (HCL.out.symm.trans h1), hc])
            obtain ⟨g', hg'⟩ : ∃ g', lx = some ⟨g', 0, none⟩ := by
              rcases HL2.out.2 with ⟨_, h0⟩ | ⟨g', cap', cur, e, _⟩
              · omega
              · simp only [Value.slice.injEq] at e
                exact ⟨g', e.1⟩
            subst hg'
            have cc : w2.cell? ⟨g', 0, none⟩ = some (.int .u8 c) := by
              have := HL2.out.cells (g := g') rfl 0 (.int .u8 c) (by rw [hc]; rfl)
              rwa [WideShapes.add_plain] at this
            have hne : byL p 256 ≠ [] := by rw [hc]; simp
            have HNE := Lib.hid hne
            clear hne hc
            have hcl0 : (0 : Int) < (cl : Int) := by omega
            go_wp2_with (at_builtin; refine app_lit rfl (.tmp 74) (.tmp 78) rfl w1.heap.size _ _ _ rfl (HO3.out _) _ 2 2 [92, c] rfl rfl (news2 _ _ _ _) (by omega) (HE1.out _).size ?_)
            intro v4 w4 hown4 hb4 _
            have HR : Hid (BkI w1 ps (k + 1) v4 w4) := Lib.hid (HI.out.more HXX.out (fun q hp => by rw [HXM.out] at hp; cases hp; exact HNE.out) ((HE1.out _).trans hb4) (n := m + 2) (by rw [← HM.out, HBP.out]; rfl) (by rw [HBP.out, List.map_append]; exact hown4))
            clear hown4 hb4
            go_wp2_with fail
            go_roundw
            case rel => exact ⟨k + 1, by go_num, HR⟩
            case measure => simp [intOf]; omega
          · have h1b : ((cl : Int) == 1) = false := by simp; omega
            have HBP : Hid (backP x = 91 :: (flat2 (byL p 256) ++ [93])) := Lib.hid (by rw [HXM.out, backP_byt, if_neg (fun h => h1 (HCL.out.trans h))])
            have HGI : Hid (∀ g, lx = some ⟨g, 0, none⟩ → ∀ (j : Nat) (c : Int), (byL p 256)[j]? = some c → w2.cell? ⟨g, j, none⟩ = some (.int .u8 c)) := Lib.hid (fun g hg j c hj => by
              subst hg
              have := HL2.out.cells (g := g) rfl j (.int .u8 c) (by rw [List.getElem?_map, hj]; rfl)
              rw [WideShapes.add_plain, Nat.zero_add] at this
              exact this)
            have HLX : Hid (0 < cl → ∃ g, lx = some ⟨g, 0, none⟩) := Lib.hid (fun h0 => by
              rcases HL2.out.2 with ⟨_, h0'⟩ | ⟨g, cap', cur, e, _⟩
              · omega
              · simp only [Value.slice.injEq] at e
                exact ⟨g, e.1⟩)
            have HNE : Hid (0 < cl → byL p 256 ≠ []) := Lib.hid (fun h0 e => by have := HCL.out; rw [e] at this; simp at this; omega)
            have hw2z := HB2.out.size
            go_wp2_with (at_builtin; refine app_lit rfl (.tmp 35) (.tmp 36) rfl w1.heap.size _ _ _ rfl (HO3.out _) _ 1 1 [91] rfl rfl (news1 _ _ _) (by omega) (HE1.out _).size ?_)
            intro v4 w4 hown4 hb4 hk4
            have HJ0 : Hid (BiI w1 w2 (backL (ps.take k)) (byL p 256) lx 0 v4 w4) := Lib.hid ⟨(HE1.out _).trans hb4, by have := hb4.size; simp only [World.size_alloc] at this; omega, by rw [← HM.out]; simpa [flat2] using hown4, fun g hg => by
              have h2 := HG2.out g hg
              have h3 := hk4 g (by first | omega | (simp only [World.size_alloc]; omega) | (simp; omega)) (HV2.out g h2.1)
              exact ⟨h3.2.trans (Below.heap_alloc _ _ _ h2.2), h3.1⟩⟩
            clear hown4 hb4 hk4 c0 c1 c2 c3 c4
            go_wp2_with fail
            go_loopw [5, 40] (fun v i X => ∃ j, i = .int .i64 (j : Nat) ∧ j ≤ cl ∧ Hid (BiI w1 w2 (backL (ps.take k)) (byL p 256) lx j v X)) (fun _ i _ => cl - (intOf i).toNat)
            case atStart => exact ⟨0, rfl, Nat.zero_le _, HJ0⟩
            case round =>
              obtain ⟨j, rfl, hj, HJ⟩ := hrel
              have hjz := HJ.out.size
              have HJB := Lib.hid HJ.out.bel
              by_cases hjlt : j < cl
              · obtain ⟨g, rfl⟩ := HLX.out (by omega)
                obtain ⟨c, hc⟩ : ∃ c, (byL p 256)[j]? = some c := ⟨(byL p 256)[j]'(by rw [← HCL.out]; exact hjlt), List.getElem?_eq_getElem _⟩
                have HCC := Lib.hid hc
                have hcc : wr.cell? ⟨g, j, none⟩ = some (.int .u8 c) := by
                  rw [World.cell?_of_block (a := ⟨g, j, none⟩) (HJ.out.row g rfl).1]
                  exact HGI.out g rfl j c hc
                have hjI : (j : Int) < (cl : Int) := by omega
                have HJO : Hid (∀ o, (wr.alloc o).ownsRow w1.heap.size 5 1 u5 (m + 1 + 2 * j) ((backL (ps.take k) ++ 91 :: flat2 ((byL p 256).take j)).map (Value.int .u8))) := Lib.hid (fun o => by
                  have := own_drop HJ.out.own ((Below.refl _ wr).alloc (Nat.le_refl _) o)
                  rw [← HM.out] at this
                  exact this)
                have HJE : Hid (∀ o, Below w1.heap.size w1 (wr.alloc o)) := Lib.hid (fun o => HJB.out.alloc HJB.out.size _)
                clear hc
                go_wp2_with (at_builtin; refine app_lit rfl (.tmp 44) (.tmp 46) rfl w1.heap.size _ _ _ rfl (HJO.out _) _ 2 2 [92, c] rfl rfl (news2 _ _ _ _) (by omega) (HJE.out _).size ?_)
                intro v5 w5 hown5 hb5 hk5
                have HJR : Hid (BiI w1 w2 (backL (ps.take k)) (byL p 256) (some ⟨g, 0, none⟩) (j + 1) v5 w5) := Lib.hid ⟨(HJE.out _).trans hb5, by have := hb5.size; simp only [World.size_alloc] at this; omega, by
                    rw [List.take_add_one, HCC.out, ← HM.out]
                    show w5.ownsRow _ _ _ _ (m + 1 + 2 * (j + 1)) ((backL (ps.take k) ++ 91 :: flat2 ((byL p 256).take j ++ [c])).map (Value.int .u8))
                    rw [flat2_snoc, show m + 1 + 2 * (j + 1) = m + 1 + 2 * j + 2 by omega]
                    simpa using hown5, fun g2 hg2 => by
                    have h1 := HJ.out.row g2 hg2
                    have h2 := HG2.out g2 hg2
                    have h3 := hk5 g2 (by first | omega | (simp only [World.size_alloc]; omega) | (simp; omega)) h1.2
                    exact ⟨(h3.2.trans (Below.heap_alloc _ _ _ (by omega))).trans h1.1, h3.1⟩⟩
                clear hown5 hb5 hk5
                go_wp2_with fail
                go_roundw
                case rel => exact ⟨j + 1, by go_num, by omega, HJR⟩
                case measure => simp [intOf]; omega
              · have hje : j = cl := by omega
                have hjI : ¬ (j : Int) < (cl : Int) := by omega
                have HJO : Hid (∀ o, (wr.alloc o).ownsRow w1.heap.size 5 1 u5 (m + 1 + 2 * cl) ((backL (ps.take k) ++ 91 :: flat2 (byL p 256)).map (Value.int .u8))) := Lib.hid (fun o => by
                  have := own_drop HJ.out.own ((Below.refl _ wr).alloc (Nat.le_refl _) o)
                  have e : (byL p 256).take cl = byL p 256 := List.take_of_length_le (by rw [← HCL.out]; exact Nat.le_refl _)
                  rw [← HM.out, hje, e] at this
                  exact this)
                have HJE : Hid (∀ o, Below w1.heap.size w1 (wr.alloc o)) := Lib.hid (fun o => HJB.out.alloc HJB.out.size _)
                clear hje
                go_wp2_with (at_builtin; refine app_lit rfl (.tmp 49) (.tmp 50) rfl w1.heap.size _ _ _ rfl (HJO.out _) _ 1 1 [93] rfl rfl (news1 _ _ _) (by omega) (HJE.out _).size ?_)
                intro v5 w5 hown5 hb5 hk5
                have HB5 := Lib.hid ((HJE.out _).trans hb5)
                have HO5 : Hid (w5.ownsRow w1.heap.size 5 1 v5 (m + 1 + 2 * cl + 1) ((backL (ps.take k) ++ backP x).map (Value.int .u8))) := Lib.hid (by rw [HBP.out]; simpa using hown5)
                clear hown5 hb5 hk5
                by_cases h0 : cl = 0
                · have h0b : ((cl : Int) == 0) = true := by rw [h0]; rfl
                  go_wp2_with fail
                  refine (HAH.out _ (below_thn HB1.out (Nat.le_refl _) HB5.out)).out.mono ?_
                  rintro y w6 ⟨rfl, hb6⟩
                  have HB6 := Lib.hid (below_thn (below_thn HB1.out (Nat.le_refl _) HB5.out) (Nat.le_refl _) hb6)
                  clear hb6
                  go_wp2_with fail
                  go_ret
                  exact ⟨rfl, HB6.out⟩
                · have h0b : ((cl : Int) == 0) = false := by simp; omega
                  have HR : Hid (BkI w1 ps (k + 1) v5 w5) := Lib.hid (HI.out.more HXX.out (fun q hp => by rw [HXM.out] at hp; cases hp; exact HNE.out (by omega)) HB5.out (n := m + 1 + 2 * cl + 1) (by rw [← HM.out, HBP.out]; simp only [List.length_cons, List.length_append, List.length_nil, flat2_len, ← HCL.out]; omega) HO5.out)
                  go_wp2_with fail
                  go_roundw
                  case rel => exact ⟨k + 1, by go_num, HR⟩
                  case measure => simp [intOf]; omega
      · have hke : k = ps.length := by rw [← HN.out]; omega
        have hkI : ¬ (k : Int) < (n : Int) := by omega
        have HF : Hid (Full ps) := Lib.hid (by have := HI.out.full; rwa [hke, List.take_length] at this)
        have HOT : Hid (wr.ownsRow w1.heap.size 5 1 u5 (backL ps).length ((backL ps).map (Value.int .u8))) := Lib.hid (by have := HI.out.own; rwa [hke, List.take_length] at this)
        have HGL := Lib.hid (HGB.out ps HF.out)
        have hlen := backL_len ps
        rw [← HN.out] at hlen
        obtain ⟨ta, tcap, htv⟩ := own_shapeK HOT.out
        have HSL := Lib.hid (slOwnedM HOT.out (backL_byt ps) (by omega))
        obtain ⟨m, hm⟩ : ∃ m, m = (backL ps).length := ⟨_, rfl⟩
        have HM := Lib.hid hm
        rw [← hm] at htv hlen
        subst htv
        clear hm
        by_cases h256 : m ≤ 256
        · have hI2 : ¬ (256 : Int) < (m : Int) := by omega
          have HQ := Lib.hid (HPRH.out wr _ (backL ps) HBw.out HSL.out (by rw [← HM.out]; exact h256))
          rw [HGL.out] at HQ
          go_wp2_with fail
          refine HQ.out.out.mono ?_
          rintro y w3 ⟨p2, rfl, hp3, hb3⟩
          have HQ3 := Lib.hid hp3
          have HB3 := Lib.hid (below_thn HBw.out (Nat.le_refl _) hb3)
          have HP3 := Lib.hid (HP1.out.next (below_thn HI.out.bel (Nat.le_refl _) hb3))
          clear hp3 hb3
          have hpl : ps.length ≤ 1048576 := by rw [← HN.out]; omega
          have hql : (ps.map can).length ≤ 1048576 := by rw [List.length_map]; exact hpl
          have HT3 := Lib.hid (HTXH.out w3 _ _ _ HB3.out HQ3.out hql)
          rw [can_text] at HT3
          have hcan : textG (ps.map can) = textG ps := can_text ps
          clear hcan
          have HTP : ∀ X, Below w.heap.size w X → PatAt _ p1 ps X → Hid (Calls Tryd.prog 23 #[.pointer (some ⟨p1, 0, none⟩)] X fun x w' => x = .returned (strV (textG ps)) ∧ Below X.heap.size X w') := fun X hX hp => HTXH.out X w.heap.size p1 ps hX hp hpl
          have HTPH := Lib.hid HTP
          clear HTP
          generalize hstr : textG ps = tx at HT3 HTPH
          clear hstr
          unfold strV at HT3 HTPH
          go_wp2_with fail
          refine HT3.out.out.mono ?_
          rintro y w4 ⟨rfl, hb4⟩
          have HB4 := Lib.hid (below_thn HB3.out (Nat.le_refl _) hb4)
          have HP4 := Lib.hid (HP3.out.next hb4)
          have HQ4 := Lib.hid (HQ3.out.next hb4)
          have HT4 := Lib.hid (HTPH.out w4 HB4.out HP4.out)
          clear hb4
          go_wp2_with fail
          refine HT4.out.out.mono ?_
          rintro y w5 ⟨rfl, hb5⟩
          have HB5 := Lib.hid (below_thn HB4.out (Nat.le_refl _) hb5)
          have HP5 := Lib.hid (HP4.out.next hb5)
          have HQ5 := Lib.hid (HQ4.out.next hb5)
          have HC5 := Lib.hid (pieces_any _ _ _ w5 HQ5.out hql)
          clear hb5
          go_wp2_with fail
          refine HC5.out.mono ?_
          rintro y w6 ⟨v6, rfl, hown6, hb6⟩
          rw [List.length_map, can_cellsL] at hown6
          have HO6 := Lib.hid hown6
          have HB6 := Lib.hid (below_thn HB5.out (Nat.le_refl _) hb6)
          have HP6 := Lib.hid (HP5.out.next hb6)
          have HC6 := Lib.hid (pieces_any _ _ _ w6 HP6.out hpl)
          clear hb6 hown6
          go_wp2_with fail
          refine HC6.out.mono ?_
          rintro y w7 ⟨v7, rfl, hown7, hb7⟩
          have HB7 := Lib.hid (below_thn HB6.out (Nat.le_refl _) hb7)
          have HSM := Lib.hid (same_any v6 v7 ps _ _ w7 (own_drop HO6.out hb7) hown7 hpl)
          clear hb7 hown7
          go_wp2_with fail
          refine HSM.out.mono ?_
          rintro y w8 ⟨rfl, hb8⟩
          have HB8 := Lib.hid (below_thn HB7.out (Nat.le_refl _) hb8)
          clear hb8
          go_wp2_with fail
          refine (HAH.out _ HB8.out).out.mono ?_
          rintro y w9 ⟨rfl, hb9⟩
          have HB9 := Lib.hid (below_thn HB8.out (Nat.le_refl _) hb9)
          clear hb9
          go_wp2_with fail
          go_ret
          exact ⟨rfl, HB9.out⟩
        · have hI2 : (256 : Int) < (m : Int) := by omega
          go_wp2_with fail
          refine (HAH.out _ HBw.out).out.mono ?_
          rintro y w6 ⟨rfl, hb6⟩
          have HB6 := Lib.hid (below_thn HBw.out (Nat.le_refl _) hb6)
          clear hb6
          go_wp2_with fail
          go_ret
          exact ⟨rfl, HB6.out⟩
  · have HP := Lib.hid (HPLH.out w aa n0 ac (Below.refl _ _) (by omega))
    go_enter Tryd.func10, Tryd.ntmps10
    go_wp2_with fail
    refine HP.out.out.mono ?_
    rintro x w5 ⟨ev, rfl, her, hb⟩
    obtain ⟨kk, rfl⟩ := her.iface
    have HBy := Lib.hid hb
    clear hb her
    go_wp2_with fail
    refine (HAH.out _ HBy.out).out.mono ?_
    rintro x w7 ⟨rfl, hb⟩
    have HBu := Lib.hid (below_thn HBy.out (Nat.le_refl _) hb)
    clear hb
    go_wp2_with fail
    go_ret
    exact ⟨rfl, HBu.out⟩

set_option maxRecDepth 100000 in
theorem globBack_open {H : Type} {enc : TypeId × Value → H} {d0 : DataW H} {p0 : List MemPlace} {q : Prop} (W : World) (base : Nat) (v0 : Value)
    (h0 : DataW.Trod enc Tryd.prog W 0 (fun _ => true) true 28 v0 d0 p0) (k0 : Value.okWide Tryd.prog W .any base 28 v0) (_ : q) (hL : laidMetH Tryd.prog Rows.globBackRow.laid W) :
    Calls Tryd.prog 10 #[v0] W fun e W' => e = .returned (.bool true) ∧ Below W.heap.size W W' := by
  obtain ⟨l, hs, _⟩ := sl_of_b k0 h0
  obtain ⟨e, he, hT, hD⟩ := gl_of_laid (by kernel_rfl) (by kernel_rfl) hL
  obtain ⟨cf, hcf⟩ := classes_ok
  exact gback_any cf hcf e v0 l W he hT hD hs
end Go.Proofs.YtndgomocehfmgaaDoor
namespace Go.Proofs.YtndgomocehfmgaaDoor
open Go.ChangeShapes Go.WideShapes Go.ChangeAt Go.RowKit

theorem globBack_own : ownKnob Tryd.prog.godebug = none := by kernel_rfl
theorem globBack_laidOut : laidOutB Tryd.prog = true := by kernel_rfl

set_option maxRecDepth 100000 in
theorem globBack_lifted (os : Os) (started : os.Started) (H : Type) (enc : TypeId × Value → H) :
    ReturnsInHanded {} Tryd.checked os 10 .any (fun w args => (Rows.globBackSpec.pre enc Tryd.prog Tryd.f10 [] false w args ∧ laidMetH Tryd.prog Rows.globBackRow.laid w) ∧ sizedMet enc Tryd.prog Tryd.f10 (OpenSpec.ofChange Rows.globBackSpec) false w args)
      (Rows.globBackSpec.post enc Tryd.prog Tryd.f10 false true false false) := by
  refine returnsInHanded_of_change_and (C := Tryd.checked) (X := fun w _ => laidMetH Tryd.prog Rows.globBackRow.laid w) (fun _ _ _ hh h => h.of_heap hh) globBack_own started (by kernel_rfl) Tryd.func10
    (ChangeSpec.witness_shaped (enc := enc) (C := Tryd.checked) (os := os) (X := fun w _ => laidMetH Tryd.prog Rows.globBackRow.laid w) false (World.laidAll Tryd.prog os Rows.globBackRow.laid) #[.slice none 0 0] 8 (World.laidAll_os _ _ _)
      (World.shaped_of_ZipB (by kernel_rfl) (by kernel_rfl)) (by kernel_rfl) (by kernel_rfl) (by kernel_rfl)
      (by rw [MakeChecks.laidMetH_plain _ _ _ (by kernel_rfl)]; exact laidMet_laidAll _ (by kernel_rfl) (by kernel_rfl))) ?_
  intro W base args ds gs before hval0 hW _ hsz0 hL _
  have hval : ∀ (j : Nat) t v, Tryd.f10.params[j]? = some t → args[j]? = some v → Value.okWide Tryd.prog W .any base t v := hval0
  have hsz : (DataW.weightsEach Tryd.prog (Tryd.f10.params.toList ++ Rows.globBackSpec.plain.varTypes Tryd.prog) (ds ++ gs)).all (· ≤ reachBytes) = true := hsz0
  clear hsz0
  have hW' := hW
  obtain ⟨p, q, hA0, hV, rfl, hfz, hnd⟩ := hW
  have hA : DataW.TrodAll enc Tryd.prog W 0 (fun _ => true) true Tryd.f10.params.toList args.toList ds p := hA0
  rw [Tryd.params10] at hA hval hsz
  obtain ⟨v0, d0, rfl, rfl, h0⟩ := trodAll_one hA
  obtain ⟨rfl, rfl⟩ := trodVars_none hV
  clear hA0 hval0
  simp only [List.append_nil] at hW'
  have hlt : ∀ x ∈ p, x.block < W.heap.size := fun x hx => by first | simpa using hW'.lt x hx | simpa using hW'.lt x (by simpa using hx)
  refine (globBack_open W base v0 h0 (hval 0 28 v0 rfl rfl) hsz hL).mono fun e W' ⟨he, hb⟩ => ?_
  subst he
  have e1 : Rows.globBackSpec.fn H ([d0] ++ []) = { results := [.lit (.bool true)], args := [d0] } := by simp [Rows.globBackSpec]
  refine ⟨_, rfl, _, _, _, [], p, [], hW', ?_, ?_, ?_, hb.frame _, fun h => by cases h⟩
  · rw [e1]; exact trodAll_mk1 (shut_bool Tryd.underlying4 true)
  · rw [e1]; exact trodAll_mk1 (Below.trod globBack_laidOut (by kernel_rfl) (of_decide_eq_true (by kernel_rfl)) h0 hb (fun x hx => hlt x (by simp [hx])))
  · rw [e1]; rfl

theorem globBack_said : Rows.GlobBackSaid :=
  OpenClaim.holds_of_wide 10 Tryd.f10 rfl rfl rfl rfl rfl rfl rfl ⟨rfl, rfl, rfl, rfl, rfl⟩ rfl rfl rfl rfl rfl (by kernel_rfl) Tryd.func10 (by kernel_rfl)
    (of_decide_eq_true (by kernel_rfl)) (by unfold Func.isWrapper; rw [if_neg (of_decide_eq_false (by kernel_rfl))]; exact ⟨rfl, rfl⟩)
    (fun os started H enc _ => globBack_lifted os started H enc)

theorem globBack_holds : Rows.GlobBackCardSaid :=
  Claim7.holds_tied_plain_at .later [] Rows.globBackCard.laidKinds true Rows.globBackCard.stood.harness Rows.globBackCard.stood.looks
    globBack_said (fun _ h => by cases h) (by kernel_rfl) (fun _ h => by cases h) globBack_row_tie rfl ⟨rfl, rfl⟩ (by kernel_rfl) rfl
    (fun f fn hf hfn => by
      obtain rfl : f = 10 := Option.some.inj ((show Tryd.prog.funcNamed "pidgin/pidginlaw6.GlobBack" = some 10 by kernel_rfl).symm.trans hf) |>.symm
      obtain rfl : fn = Tryd.f10 := (Option.some.inj (Tryd.func10.symm.trans hfn)).symm
      exact ⟨by kernel_rfl, fun j t ht => by
        rw [Tryd.params10] at ht
        have hm : t ∈ [28] := by simpa using Array.mem_of_getElem? ht
        have hall : ([28].all fun u => !Tryd.prog.wantsStandIn u) = true := by kernel_rfl
        exact (show Tryd.prog.wantsStandIn t = false by simpa using List.all_eq_true.1 hall t hm)⟩)
    (by kernel_rfl)
#print axioms globBack_holds
end Go.Proofs.YtndgomocehfmgaaDoor
