/- Proved here: for any two texts of bytes the statement that of two patterns, one text behind the other, the pieces are the one's and the other's, answers true, and its arguments read as before. Condition: the sentinels' variables and the listed tables read as the row lists them, which the tie gives. -/
import Derived.Test.YtndgomocehfmgaaDoorGlM3
import Derived.Test.YtndgomocehfmgaaDoorSeOpn
import Derived.Test.YtndgomocehfmgaaDoorFaSents
import Derived.Test.YtndgomocehfmgaaDoorRows
import Derived.LaidSub
import Derived.MakeChecks
import Derived.Test.YtndgomocehfmgaaDoorScOpen
import Derived.Test.YtndgomocehfmgaaDoorGlQuo
import Derived.Lib.SliceRun
import Derived.Test.YtndgomocehfmgaaDoorSeEq
import Derived.BigQuiet
import Derived.Test.YtndgomocehfmgaaDoorSeRng
import Derived.Laws.AppendOwnNone
import Derived.Laws.AppendOwn
import Derived.Test.YtndgomocehfmgaaDoorCards
import Derived.Test.YtndgomocehfmgaaDoorTie
import Derived.Lay
import Derived.SizedLaws
import Derived.ProofKit
import Derived.LaidMore
import Derived.Stop.Joined
import Derived.Carry
/- From the row's condition to what stage 6's walks want. -/
namespace Go.Proofs.YtndgomocehfmgaaDoor
open Go.RowKit

theorem db_of_tz {W : World} (h : TZ W) : DB W := ⟨(h 1 (by decide)).trans rfl, (h 3 (by decide)).trans rfl, (h 7 (by decide)).trans rfl, (h 15 (by decide)).trans rfl⟩
def sentKeep (x : String × DataW Unit) : Bool := (sentNames.map (·.1)).contains x.1
def tabKeep (x : String × DataW Unit) : Bool := x.1 == "math/bits.deBruijn64tab"
theorem gl_of_laid {W : World} {L : List (String × DataW Unit)} (h1 : L.filter tabKeep = [("math/bits.deBruijn64tab", Lib.tabData .u8 bruijnZ)]) (h2 : L.filter sentKeep = sentNames.map sd) (h : laidMetH Tryd.prog L W) :
    ∃ e, Es W W.heap.size e ∧ TZ W ∧ DB W := by
  have h' := laidMetH.filter sentKeep h
  rw [h2, MakeChecks.laidMetH_plain _ _ _ (by kernel_rfl)] at h'
  obtain ⟨sl, _, hv⟩ := sents_vars h'
  have h3 := laidMetH.filter tabKeep h
  rw [h1, MakeChecks.laidMetH_plain _ _ _ (by kernel_rfl)] at h3
  have hT := tz_of_head h3
  refine ⟨fun k => sl.getD (k - 1) ⟨0, 0, none⟩, ⟨hv, ?_, Nat.le_refl _⟩, hT, db_of_tz hT⟩
  have a := World.block_lt_of_cell? _ _ (hv 21 (by omega) (by omega))
  have b := World.block_lt_of_cell? _ _ (hT 0 (by decide))
  simp at a b
  omega
end Go.Proofs.YtndgomocehfmgaaDoor
/- Slices that came in, by their bulk (the Upto form). -/
namespace Go.Proofs.YtndgomocehfmgaaDoor
open Go.RowKit

theorem bulk_one {H : Type} (d : DataW H) : 1 ≤ Rows.uptoBulk d := by
  cases d with
  | lit l => cases l <;> simp [Rows.uptoBulk]
  | nil => simp [Rows.uptoBulk]
  | ptr d => simp [Rows.uptoBulk]
  | slice elems spare => simp [Rows.uptoBulk]
  | agg parts => simp [Rows.uptoBulk]
  | iface t d => simp [Rows.uptoBulk]
  | map entries => simp [Rows.uptoBulk]
  | held h => simp [Rows.uptoBulk]
theorem bulk_len {H : Type} (l : List (DataW H)) : l.length ≤ Rows.uptoBulkAll l := by
  induction l with
  | nil => simp [Rows.uptoBulkAll]
  | cons x r ih => have := bulk_one x; simp only [Rows.uptoBulkAll, List.length_cons]; omega
theorem bulk_slice {H : Type} (elems spare : List (DataW H)) : elems.length ≤ Rows.uptoBulk (.slice elems spare) := by
  have h1 := bulk_len elems
  simp only [Rows.uptoBulk]
  omega

set_option maxRecDepth 100000 in
/-- A slice of bytes that came in: no longer than its bulk. -/
theorem sl_of_b {H : Type} {enc : TypeId × Value → H} {W : World} {base : Nat} {v : Value} {d : DataW H} {ps : List MemPlace}
    (hk : Value.okWide Tryd.prog W .any base 28 v) (h : DataW.Trod enc Tryd.prog W 0 (fun _ => true) true 28 v d ps) :
    ∃ l, Sl W v l ∧ l.length ≤ Rows.uptoBulk d := by
  obtain ⟨a0, len, cap, rfl⟩ := WideShapes.okWide_slice Tryd.underlying28 hk
  obtain ⟨fuel, hf⟩ := h
  by_cases hl0 : len = 0
  · subst hl0; exact ⟨[], ⟨fun i => by simp, by simp, Or.inl ⟨rfl, a0, cap, rfl⟩⟩, by simp⟩
  rcases ChangeShapes.open_ints Tryd.underlying28 Tryd.underlying5 (by kernel_rfl) hf with ⟨hcs, _⟩ | ⟨a, len', cap', zs, hcs, _, hl, hm, hzl, hx, hcell, hwf⟩
  · simp [Value.cells] at hcs
    exact absurd hcs.2.1 hl0
  · simp [Value.cells] at hcs
    obtain ⟨rfl, rfl, rfl⟩ := hcs
    simp only [if_true] at hzl
    obtain ⟨b, o, spot⟩ := a
    have hspot : spot = none := by simpa [Addr.add] using World.cell?_spot (hcell 0 (by omega))
    subst hspot
    have hlt : (zs.take len).length = len := by simp; omega
    have hg : ∀ i, i < len → (zs.take len).getD i 0 = zs.getD i 0 := fun i hi => by simp [List.getD, hi]
    unfold maxLen at hm
    refine ⟨zs.take len, ⟨fun i => ?_, by omega, Or.inr ⟨b, o, cap, by rw [hlt], by omega, by omega, fun i hi => ?_⟩⟩, ?_⟩
    · by_cases hi : i < len
      · rw [hg i hi]
        have : zs.getD i 0 ∈ zs := by
          rw [List.getD, List.getElem?_eq_getElem (by omega)]
          exact List.getElem_mem _
        exact byte_wf (hwf _ this)
      · rw [List.getD, List.getElem?_eq_none (by omega)]; simp
    · rw [hlt] at hi
      have := hcell i (by omega)
      rw [WideShapes.add_plain] at this
      rw [hg i hi]
      exact this
    · simp only [Prod.mk.injEq] at hx
      rw [hx.1]
      refine Nat.le_trans ?_ (bulk_slice _ _)
      simp [ChangeShapes.lits]

set_option maxRecDepth 100000 in
/-- A nil slice that came in has no length and no capacity. -/
theorem sl_nil2 {H : Type} {enc : TypeId × Value → H} {W : World} {base : Nat} {v : Value} {d : DataW H} {ps : List MemPlace}
    (hk : Value.okWide Tryd.prog W .any base 28 v) (h : DataW.Trod enc Tryd.prog W 0 (fun _ => true) true 28 v d ps) (n cap : Nat) (e : v = .slice none n cap) : n = 0 ∧ cap = 0 := by
  subst e
  obtain ⟨fuel, hf⟩ := h
  rcases ChangeShapes.open_ints Tryd.underlying28 Tryd.underlying5 (by kernel_rfl) hf with ⟨hcs, _⟩ | ⟨a, len', cap', zs, hcs, _⟩
  · simp [Value.cells] at hcs
    exact hcs
  · simp [Value.cells] at hcs

end Go.Proofs.YtndgomocehfmgaaDoor
/- GlobQuotes: Pieces, the walk, opened. -/
namespace Go.Proofs.YtndgomocehfmgaaDoor
open Go.RowKit

theorem own_any {w : World} {B : Nat} {e : TypeId} {s : Nat} {v : Value} {n : Nat} {xs : List Value} (h : w.ownsRow B e s v n xs) : ∃ a0 cap, v = .slice a0 n cap := own_shapeK h

set_option maxRecDepth 100000 in
set_option maxHeartbeats 8000000 in
/-- A copy of the pieces. -/
theorem pieces_any (B b : Nat) (ps : List Pc) (w : World) (h : PatAt B b ps w) (hl : ps.length ≤ 1048576) :
    Calls Tryd.prog 22 #[.pointer (some ⟨b, 0, none⟩)] w fun x w' => ∃ v, x = .returned v ∧ w'.ownsRow w.heap.size 58 5 v ps.length (cellsL ps) ∧ Below w.heap.size w w' := by
  obtain ⟨hB, v, u, hpb, hrow, hplain⟩ := h
  obtain ⟨i0, z0, hi, hz0, hz1, hz2, hz3⟩ := piece_parts
  obtain ⟨⟨c0, c1⟩, _, hbz⟩ := cells2 hpb
  have q48 : ∀ (w : World) (a : Option Addr) (n c n' c' : Nat), (binOp .eql 48 (.slice a n c) (.slice none n' c')).run Tryd.prog w = .ok (.bool a.isNone) w := fun w a n c n' c' => Lib.run_eql_slice_nil w _ _ a n c n' c' Tryd.underlying48
  have HC : Hid (Calls Tryd.prog 51 #[v] w fun x w' => ∃ v, x = .returned v ∧ w'.ownsRow w.heap.size 58 5 v ps.length (cellsL ps) ∧ Below w.heap.size w w') := by
    rcases hrow.2 with ⟨rfl, h0⟩ | ⟨g, cap, cur, rfl, hgl, hgb, hnc, hcm, hcz, htk⟩
    · have hp : ps = [] := List.length_eq_zero_iff.1 h0
      subst hp
      clear hrow hplain hpb
      refine Lib.hid ?_
      go_enter Tryd.func51, Tryd.ntmps51
      go_wp2
      go_ret
      exact ⟨_, rfl, World.ownsRow_nil _ _ _ _, Below.refl _ _⟩
    · have hnews : ∀ j y, (cellsL ps)[j]? = some y → (w.alloc (.cells #[] 58)).cell? ((⟨g, 0, none⟩ : Addr).add j) = some y := fun j y hj => by
        have h1 := (hrow.alloc (.cells #[] 58)).cells (g := g) rfl j y hj
        exact h1
      have hone : ∀ y ∈ cellsL ps, y.oneCell' = true := fun y hy => by
        unfold cellsL at hy
        obtain ⟨x, hx, hyx⟩ := List.mem_flatten.1 hy
        obtain ⟨p, _, rfl⟩ := List.mem_map.1 hx
        exact one5 _ _ _ _ _ y hyx
      have hown0 := World.ownsRow_made (base := w.heap.size) (e := 58) (size := 5) w #[] 0 (Nat.le_refl _) (by unfold maxLen; omega) rfl
      have HN := Lib.hid hnews
      have HON := Lib.hid hone
      have HO0 := Lib.hid hown0
      have hcl := cellsL_len ps
      have HCL := Lib.hid hcl
      clear hrow hplain hpb hnews hone hown0 hgb hcz htk hcl
      refine Lib.hid ?_
      go_enter Tryd.func51, Tryd.ntmps51
      go_wp2_with (at_builtin; refine wpList_append_own _ rfl _ _ 48 rfl w.heap.size 58 i0 z0 5 40 Tryd.underlying48 hi hz0 hz1 hz2 hz3 (by decide) _ _ _ rfl HO0.out ⟨g, 0, none⟩ ps.length cap (cellsL ps) rfl HCL.out HN.out HON.out (by unfold maxLen; omega) (by omega) (by simp) ?_)
      intro v' w4 hown' hgr _
      have HE : Hid (w4.ownsRow w.heap.size 58 5 v' ps.length (cellsL ps) ∧ Below w.heap.size w w4) := Lib.hid ⟨by simpa using hown', ((Below.refl w.heap.size w).alloc (Nat.le_refl _) _).grown hgr (by simp) (fun k hk => (HO0.out.lt k hk).1)⟩
      clear hown' hgr
      go_wp2
      go_ret
      exact ⟨_, rfl, HE.out.1, HE.out.2⟩
  clear hrow hplain hpb
  obtain ⟨vv, hvv⟩ : ∃ vv, vv = v := ⟨_, rfl⟩
  go_enter Tryd.func22, Tryd.ntmps22
  go_wp2_with fail
  refine HC.out.mono ?_
  rintro x w1 ⟨v', rfl, hown, hb1⟩
  have HE : Hid (w1.ownsRow w.heap.size 58 5 v' ps.length (cellsL ps) ∧ Below w.heap.size w w1) := Lib.hid ⟨hown, hb1⟩
  clear hown hb1
  go_wp2
  go_ret
  exact ⟨_, rfl, HE.out.1, HE.out.2⟩
end Go.Proofs.YtndgomocehfmgaaDoor
/- Two rows of pieces that are the same, compared by the law's loop. -/
namespace Go.Proofs.YtndgomocehfmgaaDoor
open Go.RowKit

set_option maxRecDepth 100000 in
theorem neq_piece (k a b c d : Int) (w : World) :
    (binOp .neq 58 (.agg #[.int .i64 k, .int .u64 a, .int .u64 b, .int .u64 c, .int .u64 d]) (.agg #[.int .i64 k, .int .u64 a, .int .u64 b, .int .u64 c, .int .u64 d])).run Tryd.prog w = .ok (.bool false) w := by
  have hf : (Tryd.prog.fieldsOf 58).toList.map (fun f => (f.name, f.type, f.offset)) = [("Kind", 3, 0), ("Set", 24, 1)] := by kernel_rfl
  have hu : Tryd.prog.underlying 58 = some (.struct (Tryd.prog.fieldsOf 58)) := by kernel_rfl
  have hs : Tryd.prog.stoodInHeld 58 = false := by kernel_rfl
  obtain ⟨f0, r0, e0, hf0, hr0⟩ := List.map_eq_cons_iff.1 hf
  obtain ⟨f1, r1, e1, hf1, hr1⟩ := List.map_eq_cons_iff.1 hr0
  have er : r1 = [] := List.map_eq_nil_iff.1 hr1
  subst er
  subst e1
  simp only [Prod.mk.injEq] at hf0 hf1
  have hp0 : ∀ (k a b c d : Value) (w : World), (part 3 #[k, a, b, c, d] 0).run Tryd.prog w = .ok k w := fun k a b c d w => by kernel_rfl
  have hp1 : ∀ (k a b c d : Value) (w : World), (part 24 #[k, a, b, c, d] 1).run Tryd.prog w = .ok (.agg #[a, b, c, d]) w := fun k a b c d w => by kernel_rfl
  have hi : ∀ (d : Nat) (a b : Int) (w : World), (Op.equalIn (d + 1) 3 (.int .i64 a) (.int .i64 b)).run Tryd.prog w = .ok (a == b) w := fun d a b w => run_equalIn_int w d _ .i64 .i64 a b Tryd.underlying3
  rw [run_neq_struct, show (10000 : Nat) = 9999 + 1 from rfl, run_equalIn_agg w 9999 _ _ _ hu hs, e0]
  simp only [Op.eqFields, hf0.1, hf0.2.1, hf0.2.2, hf1.1, hf1.2.1, hf1.2.2]
  have hi9 := fun (a b : Int) (w : World) => hi 9998 a b w
  have he9 := fun (x0 x1 x2 x3 y0 y1 y2 y3 : Int) (w : World) => eq_arr 9997 x0 x1 x2 x3 y0 y1 y2 y3 w
  simp [Sem.run_bind, Sem.run_ite, hp0, hp1, hi9, he9]

set_option maxRecDepth 100000 in
set_option maxHeartbeats 8000000 in
theorem same_any (va vb : Value) (ps : List Pc) (Ba Bb : Nat) (w : World) (ha : w.ownsRow Ba 58 5 va ps.length (cellsL ps)) (hb : w.ownsRow Bb 58 5 vb ps.length (cellsL ps)) (hl : ps.length ≤ 1048576) :
    Calls Tryd.prog 27 #[va, vb] w fun x w' => x = .returned (.bool true) ∧ Below w.heap.size w w' := by
  have HA := Lib.hid ha
  have HB := Lib.hid hb
  obtain ⟨n, hn⟩ : ∃ n, n = ps.length := ⟨_, rfl⟩
  have HN := Lib.hid hn
  obtain ⟨av, acap, hva⟩ := own_shapeK ha
  obtain ⟨bv, bcap, hvb⟩ := own_shapeK hb
  rw [← hn] at hl hva hvb
  subst hva
  subst hvb
  have NE := neq_piece
  clear ha hb hn
  go_enter Tryd.func27, Tryd.ntmps27
  go_wp2
  go_loopw [13] (fun i X => ∃ k, i = .int .i64 (k : Nat) ∧ k ≤ n ∧ Below w.heap.size w X) (fun i _ => n - (intOf i).toNat)
  case atStart => exact ⟨0, rfl, Nat.zero_le _, Below.refl _ _⟩
  case round =>
    obtain ⟨k, rfl, hk, hbl⟩ := hrel
    have HBL := Lib.hid hbl
    clear hbl
    by_cases hlt : k < n
    · have hltL : k < ps.length := by rw [← HN.out]; exact hlt
      obtain ⟨x, hx⟩ : ∃ x, ps[k]? = some x := ⟨ps[k], List.getElem?_eq_getElem hltL⟩
      have hro := HA.out
      have hrb := HB.out
      rw [← HN.out] at hro hrb
      obtain ⟨g, hg⟩ : ∃ g, av = some ⟨g, 0, none⟩ := by
        rcases hro.2 with ⟨_, h0⟩ | ⟨g, cap', cur, e, _⟩
        · omega
        · simp only [Value.slice.injEq] at e
          exact ⟨g, e.1⟩
      subst hg
      obtain ⟨g', hg'⟩ : ∃ g', bv = some ⟨g', 0, none⟩ := by
        rcases hrb.2 with ⟨_, h0⟩ | ⟨g', cap', cur, e, _⟩
        · omega
        · simp only [Value.slice.injEq] at e
          exact ⟨g', e.1⟩
      subst hg'
      have hro2 := own_drop hro HBL.out
      have hrb2 := own_drop hrb HBL.out
      have p0 := row_at hro2 hx 0 (by decide) _ rfl
      have p1 := row_at hro2 hx 1 (by decide) _ rfl
      have p2 := row_at hro2 hx 2 (by decide) _ rfl
      have p3 := row_at hro2 hx 3 (by decide) _ rfl
      have p4 := row_at hro2 hx 4 (by decide) _ rfl
      have q0 := row_at hrb2 hx 0 (by decide) _ rfl
      have q1 := row_at hrb2 hx 1 (by decide) _ rfl
      have q2 := row_at hrb2 hx 2 (by decide) _ rfl
      have q3 := row_at hrb2 hx 3 (by decide) _ rfl
      have q4 := row_at hrb2 hx 4 (by decide) _ rfl
      rw [Nat.add_zero] at p0 q0
      have hkI : (k : Int) < (n : Int) := by omega
      clear hro hro2 hrb hrb2 hx
      go_wp2_with fail
      go_quiet (fail)
      go_wp2_with fail
      go_roundw
      case rel => exact ⟨k + 1, by go_num, by omega, below_drewN HBL.out _⟩
      case measure => simp [intOf]; omega
    · have hke : k = n := by omega
      subst hke
      go_wp2
      go_ret
      exact ⟨rfl, HBL.out⟩
end Go.Proofs.YtndgomocehfmgaaDoor
/- Appends to a row of one's own: any slice of bytes, any row of pieces. -/
namespace Go.Proofs.YtndgomocehfmgaaDoor
open Go.RowKit

theorem app_bytes {w : World} {ops : Array Oper} {rest : List Oper} {o : Oper} {a : Act} {Q : Exit → Act → World → Prop} (hgd : o.guard = none) (s x : Operand)
    (ho : o.op = .call { callee := .builtin .append, args := #[s, x], argTypes := #[28, 28] })
    (base : Nat) (v : Value) (n : Nat) (xs : List Value) (hs : a.eval s = v) (hown : w.ownsRow base 5 1 v n xs) (vx : Value) (l : List Int) (hx : a.eval x = vx) (hsl : Sl w vx l) (hnil : ∀ n c, vx = .slice none n c → n = 0 ∧ c = 0)
    (h63 : n + l.length ≤ 4096) (hbase : base ≤ w.heap.size)
    (h : ∀ v' w', w'.ownsRow base 5 1 v' (n + l.length) (xs ++ l.map (Value.int .u8)) → Below base w w' → wpList Tryd.prog ops Q rest (a.put o.dst v') w') : wpList Tryd.prog ops Q (o :: rest) a w := by
  obtain ⟨i0, hi, hz0, hz1, hz2⟩ := info_parts byte_row
  have key : ∀ ad c, vx = .slice (some ad) l.length c → wpList Tryd.prog ops Q (o :: rest) a w := fun ad c e => by
    subst e
    exact wpList_append_own w hgd s x _ ho base 5 i0 (.int .u8 0) 1 1 Tryd.underlying28 hi hz0 hz1 hz2 rfl (by decide) v n xs hs hown ad l.length c (l.map (Value.int .u8)) hx (by simp) (newsB hsl).2 (oneB l) (by unfold maxLen; omega) (by omega) hbase
      (fun v' w' h1 h2 _ => h v' w' h1 ((Below.refl base w).grown h2 hbase (fun k hk => (hown.lt k hk).1)))
  rcases hsl.shape with ⟨rfl, ad, cap, e⟩ | ⟨b, of, cap, e, _, _, _⟩
  · cases ad with
    | some ad => exact key ad cap e
    | none =>
      obtain ⟨_, hc⟩ := hnil 0 cap e
      subst hc
      exact wpList_append_own_none hgd s x _ ho base 5 i0 1 Tryd.underlying28 hi v n xs hs hown (by rw [hx, e]) (h v w (by simpa using hown) (Below.refl _ _))
  · exact key _ cap e

theorem cells_one (ps : List Pc) : ∀ y ∈ cellsL ps, y.oneCell' = true := fun y hy => by
  unfold cellsL at hy
  obtain ⟨x, hx, hyx⟩ := List.mem_flatten.1 hy
  obtain ⟨p, _, rfl⟩ := List.mem_map.1 hx
  exact one5 _ _ _ _ _ y hyx
theorem cellsL_app (ps qs : List Pc) : cellsL (ps ++ qs) = cellsL ps ++ cellsL qs := by unfold cellsL; simp

theorem app_pieces {w : World} {ops : Array Oper} {rest : List Oper} {o : Oper} {a : Act} {Q : Exit → Act → World → Prop} (hgd : Region.wanted o (yielded ops a.tmps) = true) (s x : Operand)
    (ho : o.op = .call { callee := .builtin .append, args := #[s, x], argTypes := #[48, 48] })
    (base : Nat) (v : Value) (n : Nat) (ps : List Pc) (hs : a.eval s = v) (hown : w.ownsRow base 58 5 v n (cellsL ps)) (vx : Value) (B : Nat) (qs : List Pc) (hx : a.eval x = vx) (hrow : w.ownsRow B 58 5 vx qs.length (cellsL qs))
    (h63 : n + qs.length ≤ 4096) (hbase : base ≤ w.heap.size)
    (h : ∀ v' w', w'.ownsRow base 58 5 v' (n + qs.length) (cellsL (ps ++ qs)) → Below base w w' → wpList Tryd.prog ops Q rest (a.put o.dst v') w') : wpList Tryd.prog ops Q (o :: rest) a w := by
  obtain ⟨i0, z0, hi, hz0, hz1, hz2, hz3⟩ := piece_parts
  refine wpList_step fun K hK => ?_
  rw [if_pos hgd]
  rcases hrow.2 with ⟨rfl, h0⟩ | ⟨g, cap, cur, rfl, hgl, hgb, hnc, hcm, hcz, htk⟩
  · have hq : qs = [] := List.length_eq_zero_iff.1 h0
    subst hq
    have hrun := run_append_owned_none (P := Tryd.prog) (w := w) base 48 o.type 58 i0 5 Tryd.underlying48 hi v n _ hown
    unfold Oper.wp
    simp [execOp, ho, resolve, invoke, builtin, hs, hx, hrun, Result.andThen]
    exact hK _ _ (h v w (by simpa using hown) (Below.refl _ _))
  · exact wp_append_own w s x _ ho base 58 i0 z0 5 40 Tryd.underlying48 hi hz0 hz1 hz2 hz3 (by decide) v n _ hs hown ⟨g, 0, none⟩ qs.length cap (cellsL qs) hx (cellsL_len qs) (fun j y hj => hrow.cells (g := g) rfl j y hj) (cells_one qs) (by unfold maxLen; omega) (by omega) hbase
      (fun v' w' h1 h2 _ => hK _ _ (h v' w' (by rw [cellsL_app]; exact h1) ((Below.refl base w).grown h2 hbase (fun k hk => (hown.lt k hk).1))))

/-- Where the text a is open to its end: so far as it was read. -/
theorem openJ_fuel (a : List Int) : ∀ n m k, a.length - k < n → a.length - k < m → openJ a n k = openJ a m k
  | 0, _, _, h, _ => absurd h (by omega)
  | _ + 1, 0, _, _, h => absurd h (by omega)
  | n + 1, m + 1, k, h1, h2 => by
    unfold openJ
    by_cases hk : k < a.length
    · rw [if_pos hk, if_pos hk]
      split
      · rfl
      split
      · split
        · rfl
        · exact openJ_fuel a n m _ (by omega) (by omega)
      · exact openJ_fuel a n m _ (by omega) (by omega)
    · rw [if_neg hk, if_neg hk]
def JJ (a : List Int) (k : Nat) : Prop := openJ a (a.length + 1) k = true → openJ a (a.length + 1) 0 = true
theorem JJ.one {a : List Int} {k : Nat} (h : JJ a k) (hk : k < a.length) (h91 : ¬ a.getD k 0 = 91) (h92 : ¬ a.getD k 0 = 92) : JJ a (k + 1) := fun h1 => h (by
  rw [openJ, if_pos hk, if_neg h91, if_neg h92, openJ_fuel a a.length (a.length + 1) (k + 1) (by omega) (by omega)]
  exact h1)
theorem JJ.two {a : List Int} {k : Nat} (h : JJ a k) (hk : k < a.length) (h92 : a.getD k 0 = 92) (hk1 : ¬ k + 1 = a.length) : JJ a (k + 2) := fun h1 => h (by
  rw [openJ, if_pos hk, if_neg (by rw [h92]; decide), if_pos h92, if_neg hk1, openJ_fuel a a.length (a.length + 1) (k + 2) (by omega) (by omega)]
  exact h1)
theorem JJ.all {a : List Int} (h : JJ a a.length) : openJ a (a.length + 1) 0 = true := h (by rw [openJ, if_neg (Nat.lt_irrefl _)])
end Go.Proofs.YtndgomocehfmgaaDoor
/- GlobJoins: its walk, opened. -/
namespace Go.Proofs.YtndgomocehfmgaaDoor
open Go.RowKit

set_option maxRecDepth 100000 in
set_option maxHeartbeats 16000000 in
theorem gjoins_any (cf : ByteArray → (Nat → Bool) × Bool) (hcf : ClassOk cf) (e : Nat → Addr) (va vb : Value) (la lb : List Int) (w : World) (he : Es w w.heap.size e) (hT : TZ w) (hD : DB w) (hsa : Sl w va la) (hsb : Sl w vb lb)
    (hna : ∀ n c, va = .slice none n c → n = 0 ∧ c = 0) (hnb : ∀ n c, vb = .slice none n c → n = 0 ∧ c = 0) :
    Calls Tryd.prog 9 #[va, vb] w fun x w' => x = .returned (.bool true) ∧ Below w.heap.size w w' := by
  have hes : ∀ X, Below w.heap.size w X → Es X X.heap.size e := fun X hX => ⟨(he.below hX).var, Nat.lt_of_lt_of_le he.low hX.size, Nat.le_refl _⟩
  have HA : ∀ X, Below w.heap.size w X → Hid (Calls Tryd.prog 24 #[] X fun x w' => x = .returned (.bool true) ∧ Below X.heap.size X w') := fun X hX => Lib.hid (awake6_any cf hcf e X (hes X hX) (hT.below hX) (hD.below hX))
  have HPR : ∀ X v l, Below w.heap.size w X → Sl X v l → l.length ≤ 256 → Hid (Calls Tryd.prog 26 #[v] X fun x w' => ∃ b, x = .returned (.tuple #[.pointer (some ⟨b, 0, none⟩), .nilIface]) ∧ PatAt X.heap.size b (glP cf l) w' ∧ Below X.heap.size X w') := fun X v l hX hv hl => Lib.hid (parse_ok cf hcf e v l X (hes X hX) (hT.below hX) hv hl)
  have HAH := Lib.hid HA
  have HPRH := Lib.hid HPR
  have HSA := Lib.hid hsa
  have HSB := Lib.hid hsb
  have HNA := Lib.hid hna
  have HNB := Lib.hid hnb
  have HYA := Lib.hid hsa.1
  have HYB := Lib.hid hsb.1
  have HJN := Lib.hid (glP_joins cf la lb)
  obtain ⟨aa, ac, hva⟩ : ∃ a c, va = .slice a la.length c := by
    rcases hsa.shape with ⟨rfl, a, cap, rfl⟩ | ⟨x, o, cap, rfl, _⟩
    · exact ⟨a, cap, rfl⟩
    · exact ⟨_, cap, rfl⟩
  obtain ⟨ba, bc, hvb⟩ : ∃ a c, vb = .slice a lb.length c := by
    rcases hsb.shape with ⟨rfl, a, cap, rfl⟩ | ⟨x, o, cap, rfl, _⟩
    · exact ⟨a, cap, rfl⟩
    · exact ⟨_, cap, rfl⟩
  subst hva
  subst hvb
  have HROW : Hid (∀ k, k < la.length → ∃ b o, aa = some ⟨b, o, none⟩ ∧ w.cell? ⟨b, o + k, none⟩ = some (.int .u8 (la.getD k 0))) := Lib.hid (fun k hk => by
    rcases hsa.shape with ⟨rfl, _⟩ | ⟨x, o, cap, e, _, _, hr⟩
    · simp at hk
    · simp only [Value.slice.injEq] at e
      exact ⟨x, o, e.1, hr k hk⟩)
  clear hcf he hT hD hsa hsb hna hnb HA HPR hes
  obtain ⟨n, hn⟩ : ∃ n, n = la.length := ⟨_, rfl⟩
  obtain ⟨m, hm⟩ : ∃ m, m = lb.length := ⟨_, rfl⟩
  have HN := Lib.hid hn
  have HM := Lib.hid hm
  rw [← hn] at HSA HNA
  rw [← hm] at HSB HNB
  rw [← hn, ← hm]
  clear hn hm
  by_cases ha : n ≤ 128
  · have haI : decide ((128 : Int) < (n : Int)) = false := by simp; omega
    by_cases hb : m ≤ 128
    · have hbI : decide ((128 : Int) < (m : Int)) = false := by simp; omega
      go_enter Tryd.func9, Tryd.ntmps9
      go_wp2_with fail
      go_loopw [5] (fun i X => ∃ k, i = .int .i64 (k : Nat) ∧ k ≤ n ∧ Hid (JJ la k) ∧ X = w) (fun i _ => n - (intOf i).toNat)
      case atStart => exact ⟨0, rfl, Nat.zero_le _, Lib.hid (fun h => h), rfl⟩
      case round =>
        obtain ⟨k, rfl, hk, HJ, hX⟩ := hrel
        have hX' := hX.symm
        clear hX
        subst hX'
        by_cases hlt : k < n
        · have hltL : k < la.length := by rw [← HN.out]; exact hlt
          obtain ⟨b, o, rfl, hc⟩ := HROW.out k hltL
          have hkI : (k : Int) < (n : Int) := by omega
          have HJ1 := Lib.hid (fun h91 h92 => HJ.out.one hltL h91 h92)
          have HJ2 := Lib.hid (fun h92 hk1 => HJ.out.two hltL h92 hk1)
          generalize la.getD k 0 = c at hc HJ1 HJ2
          by_cases h91 : c = 91
          · subst h91
            go_wp2_with fail
            refine (HAH.out _ (Below.refl _ _)).out.mono ?_
            rintro x w1 ⟨rfl, hb1⟩
            have HB1 := Lib.hid hb1
            clear hb1
            go_wp2_with fail
            go_ret
            exact ⟨rfl, HB1.out⟩
          · have h91b : (c == 91) = false := beq_eq_false_iff_ne.2 h91
            by_cases h92 : c = 92
            · subst h92
              by_cases hk1 : k + 1 = n
              · have hk1b : ((k : Int) + 1 == (n : Int)) = true := by simp; omega
                go_wp2_with fail
                refine (HAH.out _ (Below.refl _ _)).out.mono ?_
                rintro x w1 ⟨rfl, hb1⟩
                have HB1 := Lib.hid hb1
                clear hb1
                go_wp2_with fail
                go_ret
                exact ⟨rfl, HB1.out⟩
              · have hk1b : ((k : Int) + 1 == (n : Int)) = false := by simp; omega
                go_wp2_with fail
                go_roundw
                case rel => exact ⟨k + 2, by go_num, by omega, Lib.hid (HJ2.out rfl (by rw [← HN.out]; exact hk1)), trivial⟩
                case measure => simp [intOf]; omega
            · have h92b : (c == 92) = false := beq_eq_false_iff_ne.2 h92
              go_wp2_with fail
              go_roundw
              case rel => exact ⟨k + 1, by go_num, by omega, Lib.hid (HJ1.out h91 h92), trivial⟩
              case measure => simp [intOf]; omega
        · have hke : k = n := by omega
          have HOP : Hid (openJ la (la.length + 1) 0 = true) := Lib.hid (by
            have := HJ.out
            rw [hke, HN.out] at this
            exact this.all)
          have HGL := Lib.hid (HJN.out HOP.out)
          have hkI : ¬ (k : Int) < (n : Int) := by omega
          have HP := Lib.hid (HPRH.out w _ la (Below.refl _ _) HSA.out (by rw [← HN.out]; omega))
          go_wp2_with fail
          refine HP.out.out.mono ?_
          rintro x w1 ⟨p1, rfl, hp1, hb1⟩
          have HP1 := Lib.hid hp1
          have HB1 := Lib.hid hb1
          clear hp1 hb1
          have HQ := Lib.hid (HPRH.out w1 _ lb HB1.out (HSB.out.below HB1.out) (by rw [← HM.out]; omega))
          go_wp2_with fail
          refine HQ.out.out.mono ?_
          rintro x w2 ⟨p2, rfl, hp2, hb2⟩
          have HP2 := Lib.hid hp2
          have HP12 := Lib.hid (HP1.out.next hb2)
          have HB2 := Lib.hid (below_thn HB1.out (Nat.le_refl _) hb2)
          clear hp2 hb2
          have HO0 : Hid ((w2.alloc (.cells #[] 5)).ownsRow w2.heap.size 5 1 (.slice (some ⟨w2.heap.size, 0, none⟩) 0 0) 0 []) := Lib.hid (World.ownsRow_made (base := w2.heap.size) (e := 5) (size := 1) w2 #[] 0 (Nat.le_refl _) (by unfold maxLen; omega) rfl)
          have HBa : Hid (Below w2.heap.size w2 (w2.alloc (.cells #[] 5))) := Lib.hid ((Below.refl _ _).alloc (Nat.le_refl _) _)
          have HS3 := Lib.hid (HSA.out.below (below_thn HB2.out (Nat.le_refl _) (HBa.out)))
          go_wp2_with (at_builtin; refine app_bytes rfl (.tmp 56) (.tmp 57) rfl w2.heap.size _ 0 [] rfl HO0.out _ la rfl HS3.out HNA.out (by rw [← HN.out]; omega) HBa.out.size ?_)
          intro v4 w4 hown4 hb4
          have HB4 := Lib.hid (HBa.out.trans hb4)
          have HO4 := Lib.hid hown4
          have HS4 := Lib.hid (HSB.out.below (below_thn HB2.out (Nat.le_refl _) (HB4.out)))
          clear hown4 hb4
          go_wp2_with (at_builtin; refine app_bytes rfl (.tmp 58) (.tmp 59) rfl w2.heap.size _ _ _ rfl HO4.out _ lb rfl HS4.out HNB.out (by rw [← HN.out, ← HM.out]; omega) HB4.out.size ?_)
          intro v5 w5 hown5 hb5
          have HB5 := Lib.hid (HB4.out.trans hb5)
          have HS5 : Hid (Sl w5 v5 (la ++ lb)) := Lib.hid (slOwnedM (L := la ++ lb) (by simpa using hown5) (byt_append HYA.out HYB.out) (by rw [List.length_append, ← HN.out, ← HM.out]; omega))
          clear hown5 hb5
          have HBw5 := Lib.hid (below_thn HB2.out (Nat.le_refl _) HB5.out)
          have HR := Lib.hid (HPRH.out w5 v5 (la ++ lb) HBw5.out HS5.out (by rw [List.length_append, ← HN.out, ← HM.out]; omega))
          have HP15 := Lib.hid (HP12.out.next HB5.out)
          have HP25 := Lib.hid (HP2.out.next HB5.out)
          go_wp2_with fail
          refine HR.out.out.mono ?_
          rintro x w6 ⟨p3, rfl, hp3, hb6⟩
          rw [HGL.out] at hp3
          have HB6 := Lib.hid (below_thn HBw5.out (Nat.le_refl _) hb6)
          have HP16 := Lib.hid (HP15.out.next hb6)
          have HP26 := Lib.hid (HP25.out.next hb6)
          have hla := glP_len cf la
          have hlb := glP_len cf lb
          rw [← HN.out] at hla
          rw [← HM.out] at hlb
          have HPC := Lib.hid (pieces_any _ _ _ w6 hp3 (by rw [List.length_append]; omega))
          clear hp3 hb6
          generalize glP cf la = ps at *
          generalize glP cf lb = qs at *
          go_wp2_with fail
          refine HPC.out.mono ?_
          rintro x w7 ⟨v7, rfl, hown7, hb7⟩
          have HO7 := Lib.hid hown7
          have HB7 := Lib.hid (below_thn HB6.out (Nat.le_refl _) hb7)
          have HP17 := Lib.hid (HP16.out.next hb7)
          have HP27 := Lib.hid (HP26.out.next hb7)
          clear hown7 hb7
          have HE0 : Hid ((w7.alloc (.cells #[] 58)).ownsRow w7.heap.size 58 5 (.slice (some ⟨w7.heap.size, 0, none⟩) 0 0) 0 (cellsL [])) := Lib.hid (World.ownsRow_made (base := w7.heap.size) (e := 58) (size := 5) w7 #[] 0 (Nat.le_refl _) (by unfold maxLen; omega) rfl)
          have HC0 : Hid (Below w7.heap.size w7 (w7.alloc (.cells #[] 58))) := Lib.hid ((Below.refl _ _).alloc (Nat.le_refl _) _)
          have HPA := Lib.hid (pieces_any _ _ _ _ (HP17.out.next HC0.out) (by omega))
          go_wp2_with fail
          refine HPA.out.mono ?_
          rintro x w8 ⟨v8, rfl, hown8, hb8⟩
          have HO8 := Lib.hid hown8
          have HE8 := Lib.hid (own_drop HE0.out hb8)
          have HC8 := Lib.hid (below_thn HC0.out (Nat.le_refl _) hb8)
          clear hown8 hb8
          go_wp2_with (at_builtin; refine app_pieces rfl (.tmp 69) (.tmp 71) rfl w7.heap.size _ 0 [] rfl HE8.out _ _ ps rfl HO8.out (by omega) HC8.out.size ?_)
          intro v9 w9 hown9 hb9
          have HO9 := Lib.hid hown9
          have HC9 := Lib.hid (HC8.out.trans hb9)
          clear hown9 hb9
          have HPB := Lib.hid (pieces_any _ _ _ _ (HP27.out.next HC9.out) (by omega))
          go_wp2_with fail
          refine HPB.out.mono ?_
          rintro x w10 ⟨v10, rfl, hown10, hb10⟩
          have HO10 := Lib.hid hown10
          have HE10 := Lib.hid (own_drop HO9.out hb10)
          have HC10 := Lib.hid (below_thn HC9.out (Nat.le_refl _) hb10)
          clear hown10 hb10
          go_wp2_with (at_builtin; refine app_pieces rfl (.tmp 72) (.tmp 74) rfl w7.heap.size _ _ _ rfl HE10.out _ _ qs rfl HO10.out (by omega) HC10.out.size ?_)
          intro v11 w11 hown11 hb11
          have HC11 := Lib.hid (HC10.out.trans hb11)
          have HSM := Lib.hid (same_any v7 v11 (ps ++ qs) _ _ w11 (own_drop HO7.out HC11.out) (by simpa using hown11) (by rw [List.length_append]; omega))
          clear hown11 hb11
          go_wp2_with fail
          refine HSM.out.mono ?_
          rintro x w12 ⟨rfl, hb12⟩
          have HC12 := Lib.hid (below_thn HB7.out (Nat.le_refl _) (below_thn HC11.out (Nat.le_refl _) hb12))
          clear hb12
          go_wp2_with fail
          refine (HAH.out _ HC12.out).out.mono ?_
          rintro x w13 ⟨rfl, hb13⟩
          have HC13 := Lib.hid (below_thn HC12.out (Nat.le_refl _) hb13)
          clear hb13
          go_wp2_with fail
          go_ret
          exact ⟨rfl, HC13.out⟩
    · have hbI : decide ((128 : Int) < (m : Int)) = true := by simp; omega
      go_enter Tryd.func9, Tryd.ntmps9
      go_wp2_with fail
      refine (HAH.out _ (Below.refl _ _)).out.mono ?_
      rintro x w1 ⟨rfl, hb1⟩
      have HB1 := Lib.hid hb1
      clear hb1
      go_wp2_with fail
      go_ret
      exact ⟨rfl, HB1.out⟩
  · have haI : decide ((128 : Int) < (n : Int)) = true := by simp; omega
    go_enter Tryd.func9, Tryd.ntmps9
    go_wp2_with fail
    refine (HAH.out _ (Below.refl _ _)).out.mono ?_
    rintro x w1 ⟨rfl, hb1⟩
    have HB1 := Lib.hid hb1
    clear hb1
    go_wp2_with fail
    go_ret
    exact ⟨rfl, HB1.out⟩

set_option maxRecDepth 100000 in
theorem globJoins_open {H : Type} {enc : TypeId × Value → H} {d0 d1 : DataW H} {p0 p1 : List MemPlace} {q : Prop} (W : World) (base : Nat) (v0 v1 : Value)
    (h0 : DataW.Trod enc Tryd.prog W 0 (fun _ => true) true 28 v0 d0 p0) (h1 : DataW.Trod enc Tryd.prog W 0 (fun _ => true) true 28 v1 d1 p1)
    (k0 : Value.okWide Tryd.prog W .any base 28 v0) (k1 : Value.okWide Tryd.prog W .any base 28 v1) (_ : q) (hL : laidMetH Tryd.prog Rows.globJoinsRow.laid W) :
    Calls Tryd.prog 9 #[v0, v1] W fun e W' => e = .returned (.bool true) ∧ Below W.heap.size W W' := by
  obtain ⟨l, hs, _⟩ := sl_of_b k0 h0
  obtain ⟨r, hr, _⟩ := sl_of_b k1 h1
  obtain ⟨e, he, hT, hD⟩ := gl_of_laid (by kernel_rfl) (by kernel_rfl) hL
  obtain ⟨cf, hcf⟩ := classes_ok
  exact gjoins_any cf hcf e v0 v1 l r W he hT hD hs hr (sl_nil2 k0 h0) (sl_nil2 k1 h1)
end Go.Proofs.YtndgomocehfmgaaDoor
namespace Go.Proofs.YtndgomocehfmgaaDoor
open Go.ChangeShapes Go.WideShapes Go.ChangeAt Go.RowKit

theorem globJoins_own : ownKnob Tryd.prog.godebug = none := by kernel_rfl
theorem globJoins_laidOut : laidOutB Tryd.prog = true := by kernel_rfl

set_option maxRecDepth 100000 in
theorem globJoins_lifted (os : Os) (started : os.Started) (H : Type) (enc : TypeId × Value → H) :
    ReturnsInHanded {} Tryd.checked os 9 .any (fun w args => (Rows.globJoinsSpec.pre enc Tryd.prog Tryd.f9 [] false w args ∧ laidMetH Tryd.prog Rows.globJoinsRow.laid w) ∧ sizedMet enc Tryd.prog Tryd.f9 (OpenSpec.ofChange Rows.globJoinsSpec) false w args)
      (Rows.globJoinsSpec.post enc Tryd.prog Tryd.f9 false true false false) := by
  refine returnsInHanded_of_change_and (C := Tryd.checked) (X := fun w _ => laidMetH Tryd.prog Rows.globJoinsRow.laid w) (fun _ _ _ hh h => h.of_heap hh) globJoins_own started (by kernel_rfl) Tryd.func9
    (ChangeSpec.witness_shaped (enc := enc) (C := Tryd.checked) (os := os) (X := fun w _ => laidMetH Tryd.prog Rows.globJoinsRow.laid w) false (World.laidAll Tryd.prog os Rows.globJoinsRow.laid) #[.slice none 0 0, .slice none 0 0] 8 (World.laidAll_os _ _ _)
      (World.shaped_of_ZipB (by kernel_rfl) (by kernel_rfl)) (by kernel_rfl) (by kernel_rfl) (by kernel_rfl)
      (by rw [MakeChecks.laidMetH_plain _ _ _ (by kernel_rfl)]; exact laidMet_laidAll _ (by kernel_rfl) (by kernel_rfl))) ?_
  intro W base args ds gs before hval0 hW _ hsz0 hL _
  have hval : ∀ (j : Nat) t v, Tryd.f9.params[j]? = some t → args[j]? = some v → Value.okWide Tryd.prog W .any base t v := hval0
  have hsz : (DataW.weightsEach Tryd.prog (Tryd.f9.params.toList ++ Rows.globJoinsSpec.plain.varTypes Tryd.prog) (ds ++ gs)).all (· ≤ reachBytes) = true := hsz0
  clear hsz0
  have hW' := hW
  obtain ⟨p, q, hA0, hV, rfl, hfz, hnd⟩ := hW
  have hA : DataW.TrodAll enc Tryd.prog W 0 (fun _ => true) true Tryd.f9.params.toList args.toList ds p := hA0
  rw [Tryd.params9] at hA hval hsz
  obtain ⟨v0, v1, d0, d1, p0, p1, rfl, rfl, rfl, h0, h1⟩ := trodAll_two hA
  obtain ⟨rfl, rfl⟩ := trodVars_none hV
  clear hA0 hval0
  simp only [List.append_nil] at hW'
  have hlt : ∀ x ∈ p0 ++ (p1), x.block < W.heap.size := fun x hx => by first | simpa using hW'.lt x hx | simpa using hW'.lt x (by simpa using hx)
  refine (globJoins_open W base v0 v1 h0 h1 (hval 0 28 v0 rfl rfl) (hval 1 28 v1 rfl rfl) hsz hL).mono fun e W' ⟨he, hb⟩ => ?_
  subst he
  have e1 : Rows.globJoinsSpec.fn H ([d0, d1] ++ []) = { results := [.lit (.bool true)], args := [d0, d1] } := by simp [Rows.globJoinsSpec]
  refine ⟨_, rfl, _, _, _, [], p0 ++ (p1), [], hW', ?_, ?_, ?_, hb.frame _, fun h => by cases h⟩
  · rw [e1]; exact trodAll_mk1 (shut_bool Tryd.underlying4 true)
  · rw [e1]; exact trodAll_mk2 (Below.trod globJoins_laidOut (by kernel_rfl) (of_decide_eq_true (by kernel_rfl)) h0 hb (fun x hx => hlt x (by simp [hx]))) (Below.trod globJoins_laidOut (by kernel_rfl) (of_decide_eq_true (by kernel_rfl)) h1 hb (fun x hx => hlt x (by simp [hx])))
  · rw [e1]; rfl

theorem globJoins_said : Rows.GlobJoinsSaid :=
  OpenClaim.holds_of_wide 9 Tryd.f9 rfl rfl rfl rfl rfl rfl rfl ⟨rfl, rfl, rfl, rfl, rfl⟩ rfl rfl rfl rfl rfl (by kernel_rfl) Tryd.func9 (by kernel_rfl)
    (of_decide_eq_true (by kernel_rfl)) (by unfold Func.isWrapper; rw [if_neg (of_decide_eq_false (by kernel_rfl))]; exact ⟨rfl, rfl⟩)
    (fun os started H enc _ => globJoins_lifted os started H enc)

theorem globJoins_holds : Rows.GlobJoinsCardSaid :=
  Claim7.holds_tied_plain_at .later [] Rows.globJoinsCard.laidKinds true Rows.globJoinsCard.stood.harness Rows.globJoinsCard.stood.looks
    globJoins_said (fun _ h => by cases h) (by kernel_rfl) (fun _ h => by cases h) globJoins_row_tie rfl ⟨rfl, rfl⟩ (by kernel_rfl) rfl
    (fun f fn hf hfn => by
      obtain rfl : f = 9 := Option.some.inj ((show Tryd.prog.funcNamed "pidgin/pidginlaw6.GlobJoins" = some 9 by kernel_rfl).symm.trans hf) |>.symm
      obtain rfl : fn = Tryd.f9 := (Option.some.inj (Tryd.func9.symm.trans hfn)).symm
      exact ⟨by kernel_rfl, fun j t ht => by
        rw [Tryd.params9] at ht
        have hm : t ∈ [28, 28] := by simpa using Array.mem_of_getElem? ht
        have hall : ([28, 28].all fun u => !Tryd.prog.wantsStandIn u) = true := by kernel_rfl
        exact (show Tryd.prog.wantsStandIn t = false by simpa using List.all_eq_true.1 hall t hm)⟩)
    (by kernel_rfl)
#print axioms globJoins_holds
end Go.Proofs.YtndgomocehfmgaaDoor
