/- Proved here: for any bytes and any number the statement that the bytes of a set of letters, between brackets, with ranges or without, are that set, answers true, and its arguments read as before. Condition: the sentinels' variables and the listed tables read as the row lists them, which the tie gives. -/
import Derived.Test.YtndgomocehfmgaaDoorGlM3
import Derived.Test.YtndgomocehfmgaaDoorSeOpn
import Derived.Test.YtndgomocehfmgaaDoorFaSents
import Derived.Test.YtndgomocehfmgaaDoorRows
import Derived.LaidSub
import Derived.MakeChecks
import Derived.Test.YtndgomocehfmgaaDoorScOpen
import Derived.Test.YtndgomocehfmgaaDoorGlQuo
import Derived.Lib.SliceRun
import Derived.Test.YtndgomocehfmgaaDoorSeEq
import Derived.BigQuiet
import Derived.Test.YtndgomocehfmgaaDoorSeRng
import Derived.Laws.AppendOwnNone
import Derived.Laws.AppendOwn
import Derived.Maps.AppendAt
import Derived.Test.YtndgomocehfmgaaDoorSeAwk
import Derived.Test.YtndgomocehfmgaaDoorCards
import Derived.Test.YtndgomocehfmgaaDoorTie
import Derived.Lay
import Derived.SizedLaws
import Derived.ProofKit
import Derived.LaidMore
import Derived.Stop.Joined
import Derived.Carry
/- From the row's condition to what stage 6's walks want. -/
namespace Go.Proofs.YtndgomocehfmgaaDoor
open Go.RowKit

theorem db_of_tz {W : World} (h : TZ W) : DB W := ⟨(h 1 (by decide)).trans rfl, (h 3 (by decide)).trans rfl, (h 7 (by decide)).trans rfl, (h 15 (by decide)).trans rfl⟩
def sentKeep (x : String × DataW Unit) : Bool := (sentNames.map (·.1)).contains x.1
def tabKeep (x : String × DataW Unit) : Bool := x.1 == "math/bits.deBruijn64tab"
theorem gl_of_laid {W : World} {L : List (String × DataW Unit)} (h1 : L.filter tabKeep = [("math/bits.deBruijn64tab", Lib.tabData .u8 bruijnZ)]) (h2 : L.filter sentKeep = sentNames.map sd) (h : laidMetH Tryd.prog L W) :
    ∃ e, Es W W.heap.size e ∧ TZ W ∧ DB W := by
  have h' := laidMetH.filter sentKeep h
  rw [h2, MakeChecks.laidMetH_plain _ _ _ (by kernel_rfl)] at h'
  obtain ⟨sl, _, hv⟩ := sents_vars h'
  have h3 := laidMetH.filter tabKeep h
  rw [h1, MakeChecks.laidMetH_plain _ _ _ (by kernel_rfl)] at h3
  have hT := tz_of_head h3
  refine ⟨fun k => sl.getD (k - 1) ⟨0, 0, none⟩, ⟨hv, ?_, Nat.le_refl _⟩, hT, db_of_tz hT⟩
  have a := World.block_lt_of_cell? _ _ (hv 21 (by omega) (by omega))
  have b := World.block_lt_of_cell? _ _ (hT 0 (by decide))
  simp at a b
  omega
end Go.Proofs.YtndgomocehfmgaaDoor
/- Slices that came in, by their bulk (the Upto form). -/
namespace Go.Proofs.YtndgomocehfmgaaDoor
open Go.RowKit

theorem bulk_one {H : Type} (d : DataW H) : 1 ≤ Rows.uptoBulk d := by
  cases d with
  | lit l => cases l <;> simp [Rows.uptoBulk]
  | nil => simp [Rows.uptoBulk]
  | ptr d => simp [Rows.uptoBulk]
  | slice elems spare => simp [Rows.uptoBulk]
  | agg parts => simp [Rows.uptoBulk]
  | iface t d => simp [Rows.uptoBulk]
  | map entries => simp [Rows.uptoBulk]
  | held h => simp [Rows.uptoBulk]
theorem bulk_len {H : Type} (l : List (DataW H)) : l.length ≤ Rows.uptoBulkAll l := by
  induction l with
  | nil => simp [Rows.uptoBulkAll]
  | cons x r ih => have := bulk_one x; simp only [Rows.uptoBulkAll, List.length_cons]; omega
theorem bulk_slice {H : Type} (elems spare : List (DataW H)) : elems.length ≤ Rows.uptoBulk (.slice elems spare) := by
  have h1 := bulk_len elems
  simp only [Rows.uptoBulk]
  omega

set_option maxRecDepth 100000 in
/-- A slice of bytes that came in: no longer than its bulk. -/
theorem sl_of_b {H : Type} {enc : TypeId × Value → H} {W : World} {base : Nat} {v : Value} {d : DataW H} {ps : List MemPlace}
    (hk : Value.okWide Tryd.prog W .any base 28 v) (h : DataW.Trod enc Tryd.prog W 0 (fun _ => true) true 28 v d ps) :
    ∃ l, Sl W v l ∧ l.length ≤ Rows.uptoBulk d := by
  obtain ⟨a0, len, cap, rfl⟩ := WideShapes.okWide_slice Tryd.underlying28 hk
  obtain ⟨fuel, hf⟩ := h
  by_cases hl0 : len = 0
  · subst hl0; exact ⟨[], ⟨fun i => by simp, by simp, Or.inl ⟨rfl, a0, cap, rfl⟩⟩, by simp⟩
  rcases ChangeShapes.open_ints Tryd.underlying28 Tryd.underlying5 (by kernel_rfl) hf with ⟨hcs, _⟩ | ⟨a, len', cap', zs, hcs, _, hl, hm, hzl, hx, hcell, hwf⟩
  · simp [Value.cells] at hcs
    exact absurd hcs.2.1 hl0
  · simp [Value.cells] at hcs
    obtain ⟨rfl, rfl, rfl⟩ := hcs
    simp only [if_true] at hzl
    obtain ⟨b, o, spot⟩ := a
    have hspot : spot = none := by simpa [Addr.add] using World.cell?_spot (hcell 0 (by omega))
    subst hspot
    have hlt : (zs.take len).length = len := by simp; omega
    have hg : ∀ i, i < len → (zs.take len).getD i 0 = zs.getD i 0 := fun i hi => by simp [List.getD, hi]
    unfold maxLen at hm
    refine ⟨zs.take len, ⟨fun i => ?_, by omega, Or.inr ⟨b, o, cap, by rw [hlt], by omega, by omega, fun i hi => ?_⟩⟩, ?_⟩
    · by_cases hi : i < len
      · rw [hg i hi]
        have : zs.getD i 0 ∈ zs := by
          rw [List.getD, List.getElem?_eq_getElem (by omega)]
          exact List.getElem_mem _
        exact byte_wf (hwf _ this)
      · rw [List.getD, List.getElem?_eq_none (by omega)]; simp
    · rw [hlt] at hi
      have := hcell i (by omega)
      rw [WideShapes.add_plain] at this
      rw [hg i hi]
      exact this
    · simp only [Prod.mk.injEq] at hx
      rw [hx.1]
      refine Nat.le_trans ?_ (bulk_slice _ _)
      simp [ChangeShapes.lits]

set_option maxRecDepth 100000 in
/-- A nil slice that came in has no length and no capacity. -/
theorem sl_nil2 {H : Type} {enc : TypeId × Value → H} {W : World} {base : Nat} {v : Value} {d : DataW H} {ps : List MemPlace}
    (hk : Value.okWide Tryd.prog W .any base 28 v) (h : DataW.Trod enc Tryd.prog W 0 (fun _ => true) true 28 v d ps) (n cap : Nat) (e : v = .slice none n cap) : n = 0 ∧ cap = 0 := by
  subst e
  obtain ⟨fuel, hf⟩ := h
  rcases ChangeShapes.open_ints Tryd.underlying28 Tryd.underlying5 (by kernel_rfl) hf with ⟨hcs, _⟩ | ⟨a, len', cap', zs, hcs, _⟩
  · simp [Value.cells] at hcs
    exact hcs
  · simp [Value.cells] at hcs

end Go.Proofs.YtndgomocehfmgaaDoor
/- GlobQuotes: Pieces, the walk, opened. -/
namespace Go.Proofs.YtndgomocehfmgaaDoor
open Go.RowKit

theorem own_any {w : World} {B : Nat} {e : TypeId} {s : Nat} {v : Value} {n : Nat} {xs : List Value} (h : w.ownsRow B e s v n xs) : ∃ a0 cap, v = .slice a0 n cap := own_shapeK h

set_option maxRecDepth 100000 in
set_option maxHeartbeats 8000000 in
/-- A copy of the pieces. -/
theorem pieces_any (B b : Nat) (ps : List Pc) (w : World) (h : PatAt B b ps w) (hl : ps.length ≤ 1048576) :
    Calls Tryd.prog 22 #[.pointer (some ⟨b, 0, none⟩)] w fun x w' => ∃ v, x = .returned v ∧ w'.ownsRow w.heap.size 58 5 v ps.length (cellsL ps) ∧ Below w.heap.size w w' := by
  obtain ⟨hB, v, u, hpb, hrow, hplain⟩ := h
  obtain ⟨i0, z0, hi, hz0, hz1, hz2, hz3⟩ := piece_parts
  obtain ⟨⟨c0, c1⟩, _, hbz⟩ := cells2 hpb
  have q48 : ∀ (w : World) (a : Option Addr) (n c n' c' : Nat), (binOp .eql 48 (.slice a n c) (.slice none n' c')).run Tryd.prog w = .ok (.bool a.isNone) w := fun w a n c n' c' => Lib.run_eql_slice_nil w _ _ a n c n' c' Tryd.underlying48
  have HC : Hid (Calls Tryd.prog 51 #[v] w fun x w' => ∃ v, x = .returned v ∧ w'.ownsRow w.heap.size 58 5 v ps.length (cellsL ps) ∧ Below w.heap.size w w') := by
    rcases hrow.2 with ⟨rfl, h0⟩ | ⟨g, cap, cur, rfl, hgl, hgb, hnc, hcm, hcz, htk⟩
    · have hp : ps = [] := List.length_eq_zero_iff.1 h0
      subst hp
      clear hrow hplain hpb
      refine Lib.hid ?_
      go_enter Tryd.func51, Tryd.ntmps51
      go_wp2
      go_ret
      exact ⟨_, rfl, World.ownsRow_nil _ _ _ _, Below.refl _ _⟩
    · have hnews : ∀ j y, (cellsL ps)[j]? = some y → (w.alloc (.cells #[] 58)).cell? ((⟨g, 0, none⟩ : Addr).add j) = some y := fun j y hj => by
        have h1 := (hrow.alloc (.cells #[] 58)).cells (g := g) rfl j y hj
        exact h1
      have hone : ∀ y ∈ cellsL ps, y.oneCell' = true := fun y hy => by
        unfold cellsL at hy
        obtain ⟨x, hx, hyx⟩ := List.mem_flatten.1 hy
        obtain ⟨p, _, rfl⟩ := List.mem_map.1 hx
        exact one5 _ _ _ _ _ y hyx
      have hown0 := World.ownsRow_made (base := w.heap.size) (e := 58) (size := 5) w #[] 0 (Nat.le_refl _) (by unfold maxLen; omega) rfl
      have HN := Lib.hid hnews
      have HON := Lib.hid hone
      have HO0 := Lib.hid hown0
      have hcl := cellsL_len ps
      have HCL := Lib.hid hcl
      clear hrow hplain hpb hnews hone hown0 hgb hcz htk hcl
      refine Lib.hid ?_
      go_enter Tryd.func51, Tryd.ntmps51
      go_wp2_with (at_builtin; refine wpList_append_own _ rfl _ _ 48 rfl w.heap.size 58 i0 z0 5 40 Tryd.underlying48 hi hz0 hz1 hz2 hz3 (by decide) _ _ _ rfl HO0.out ⟨g, 0, none⟩ ps.length cap (cellsL ps) rfl HCL.out HN.out HON.out (by unfold maxLen; omega) (by omega) (by simp) ?_)
      intro v' w4 hown' hgr _
      have HE : Hid (w4.ownsRow w.heap.size 58 5 v' ps.length (cellsL ps) ∧ Below w.heap.size w w4) := Lib.hid ⟨by simpa using hown', ((Below.refl w.heap.size w).alloc (Nat.le_refl _) _).grown hgr (by simp) (fun k hk => (HO0.out.lt k hk).1)⟩
      clear hown' hgr
      go_wp2
      go_ret
      exact ⟨_, rfl, HE.out.1, HE.out.2⟩
  clear hrow hplain hpb
  obtain ⟨vv, hvv⟩ : ∃ vv, vv = v := ⟨_, rfl⟩
  go_enter Tryd.func22, Tryd.ntmps22
  go_wp2_with fail
  refine HC.out.mono ?_
  rintro x w1 ⟨v', rfl, hown, hb1⟩
  have HE : Hid (w1.ownsRow w.heap.size 58 5 v' ps.length (cellsL ps) ∧ Below w.heap.size w w1) := Lib.hid ⟨hown, hb1⟩
  clear hown hb1
  go_wp2
  go_ret
  exact ⟨_, rfl, HE.out.1, HE.out.2⟩
end Go.Proofs.YtndgomocehfmgaaDoor
/- Two rows of pieces that are the same, compared by the law's loop. -/
namespace Go.Proofs.YtndgomocehfmgaaDoor
open Go.RowKit

set_option maxRecDepth 100000 in
theorem neq_piece (k a b c d : Int) (w : World) :
    (binOp .neq 58 (.agg #[.int .i64 k, .int .u64 a, .int .u64 b, .int .u64 c, .int .u64 d]) (.agg #[.int .i64 k, .int .u64 a, .int .u64 b, .int .u64 c, .int .u64 d])).run Tryd.prog w = .ok (.bool false) w := by
  have hf : (Tryd.prog.fieldsOf 58).toList.map (fun f => (f.name, f.type, f.offset)) = [("Kind", 3, 0), ("Set", 24, 1)] := by kernel_rfl
  have hu : Tryd.prog.underlying 58 = some (.struct (Tryd.prog.fieldsOf 58)) := by kernel_rfl
  have hs : Tryd.prog.stoodInHeld 58 = false := by kernel_rfl
  obtain ⟨f0, r0, e0, hf0, hr0⟩ := List.map_eq_cons_iff.1 hf
  obtain ⟨f1, r1, e1, hf1, hr1⟩ := List.map_eq_cons_iff.1 hr0
  have er : r1 = [] := List.map_eq_nil_iff.1 hr1
  subst er
  subst e1
  simp only [Prod.mk.injEq] at hf0 hf1
  have hp0 : ∀ (k a b c d : Value) (w : World), (part 3 #[k, a, b, c, d] 0).run Tryd.prog w = .ok k w := fun k a b c d w => by kernel_rfl
  have hp1 : ∀ (k a b c d : Value) (w : World), (part 24 #[k, a, b, c, d] 1).run Tryd.prog w = .ok (.agg #[a, b, c, d]) w := fun k a b c d w => by kernel_rfl
  have hi : ∀ (d : Nat) (a b : Int) (w : World), (Op.equalIn (d + 1) 3 (.int .i64 a) (.int .i64 b)).run Tryd.prog w = .ok (a == b) w := fun d a b w => run_equalIn_int w d _ .i64 .i64 a b Tryd.underlying3
  rw [run_neq_struct, show (10000 : Nat) = 9999 + 1 from rfl, run_equalIn_agg w 9999 _ _ _ hu hs, e0]
  simp only [Op.eqFields, hf0.1, hf0.2.1, hf0.2.2, hf1.1, hf1.2.1, hf1.2.2]
  have hi9 := fun (a b : Int) (w : World) => hi 9998 a b w
  have he9 := fun (x0 x1 x2 x3 y0 y1 y2 y3 : Int) (w : World) => eq_arr 9997 x0 x1 x2 x3 y0 y1 y2 y3 w
  simp [Sem.run_bind, Sem.run_ite, hp0, hp1, hi9, he9]

set_option maxRecDepth 100000 in
set_option maxHeartbeats 8000000 in
theorem same_any (va vb : Value) (ps : List Pc) (Ba Bb : Nat) (w : World) (ha : w.ownsRow Ba 58 5 va ps.length (cellsL ps)) (hb : w.ownsRow Bb 58 5 vb ps.length (cellsL ps)) (hl : ps.length ≤ 1048576) :
    Calls Tryd.prog 27 #[va, vb] w fun x w' => x = .returned (.bool true) ∧ Below w.heap.size w w' := by
  have HA := Lib.hid ha
  have HB := Lib.hid hb
  obtain ⟨n, hn⟩ : ∃ n, n = ps.length := ⟨_, rfl⟩
  have HN := Lib.hid hn
  obtain ⟨av, acap, hva⟩ := own_shapeK ha
  obtain ⟨bv, bcap, hvb⟩ := own_shapeK hb
  rw [← hn] at hl hva hvb
  subst hva
  subst hvb
  have NE := neq_piece
  clear ha hb hn
  go_enter Tryd.func27, Tryd.ntmps27
  go_wp2
  go_loopw [13] (fun i X => ∃ k, i = .int .i64 (k : Nat) ∧ k ≤ n ∧ Below w.heap.size w X) (fun i _ => n - (intOf i).toNat)
  case atStart => exact ⟨0, rfl, Nat.zero_le _, Below.refl _ _⟩
  case round =>
    obtain ⟨k, rfl, hk, hbl⟩ := hrel
    have HBL := Lib.hid hbl
    clear hbl
    by_cases hlt : k < n
    · have hltL : k < ps.length := by rw [← HN.out]; exact hlt
      obtain ⟨x, hx⟩ : ∃ x, ps[k]? = some x := ⟨ps[k], List.getElem?_eq_getElem hltL⟩
      have hro := HA.out
      have hrb := HB.out
      rw [← HN.out] at hro hrb
      obtain ⟨g, hg⟩ : ∃ g, av = some ⟨g, 0, none⟩ := by
        rcases hro.2 with ⟨_, h0⟩ | ⟨g, cap', cur, e, _⟩
        · omega
        · simp only [Value.slice.injEq] at e
          exact ⟨g, e.1⟩
      subst hg
      obtain ⟨g', hg'⟩ : ∃ g', bv = some ⟨g', 0, none⟩ := by
        rcases hrb.2 with ⟨_, h0⟩ | ⟨g', cap', cur, e, _⟩
        · omega
        · simp only [Value.slice.injEq] at e
          exact ⟨g', e.1⟩
      subst hg'
      have hro2 := own_drop hro HBL.out
      have hrb2 := own_drop hrb HBL.out
      have p0 := row_at hro2 hx 0 (by decide) _ rfl
      have p1 := row_at hro2 hx 1 (by decide) _ rfl
      have p2 := row_at hro2 hx 2 (by decide) _ rfl
      have p3 := row_at hro2 hx 3 (by decide) _ rfl
      have p4 := row_at hro2 hx 4 (by decide) _ rfl
      have q0 := row_at hrb2 hx 0 (by decide) _ rfl
      have q1 := row_at hrb2 hx 1 (by decide) _ rfl
      have q2 := row_at hrb2 hx 2 (by decide) _ rfl
      have q3 := row_at hrb2 hx 3 (by decide) _ rfl
      have q4 := row_at hrb2 hx 4 (by decide) _ rfl
      rw [Nat.add_zero] at p0 q0
      have hkI : (k : Int) < (n : Int) := by omega
      clear hro hro2 hrb hrb2 hx
      go_wp2_with fail
      go_quiet (fail)
      go_wp2_with fail
      go_roundw
      case rel => exact ⟨k + 1, by go_num, by omega, below_drewN HBL.out _⟩
      case measure => simp [intOf]; omega
    · have hke : k = n := by omega
      subst hke
      go_wp2
      go_ret
      exact ⟨rfl, HBL.out⟩
end Go.Proofs.YtndgomocehfmgaaDoor
/- Appends to a row of one's own: any slice of bytes, any row of pieces. -/
namespace Go.Proofs.YtndgomocehfmgaaDoor
open Go.RowKit

theorem app_bytes {w : World} {ops : Array Oper} {rest : List Oper} {o : Oper} {a : Act} {Q : Exit → Act → World → Prop} (hgd : o.guard = none) (s x : Operand)
    (ho : o.op = .call { callee := .builtin .append, args := #[s, x], argTypes := #[28, 28] })
    (base : Nat) (v : Value) (n : Nat) (xs : List Value) (hs : a.eval s = v) (hown : w.ownsRow base 5 1 v n xs) (vx : Value) (l : List Int) (hx : a.eval x = vx) (hsl : Sl w vx l) (hnil : ∀ n c, vx = .slice none n c → n = 0 ∧ c = 0)
    (h63 : n + l.length ≤ 1048576) (hbase : base ≤ w.heap.size)
    (h : ∀ v' w', w'.ownsRow base 5 1 v' (n + l.length) (xs ++ l.map (Value.int .u8)) → Below base w w' → wpList Tryd.prog ops Q rest (a.put o.dst v') w') : wpList Tryd.prog ops Q (o :: rest) a w := by
  obtain ⟨i0, hi, hz0, hz1, hz2⟩ := info_parts byte_row
  have key : ∀ ad c, vx = .slice (some ad) l.length c → wpList Tryd.prog ops Q (o :: rest) a w := fun ad c e => by
    subst e
    exact wpList_append_own w hgd s x _ ho base 5 i0 (.int .u8 0) 1 1 Tryd.underlying28 hi hz0 hz1 hz2 rfl (by decide) v n xs hs hown ad l.length c (l.map (Value.int .u8)) hx (by simp) (newsB hsl).2 (oneB l) (by unfold maxLen; omega) (by omega) hbase
      (fun v' w' h1 h2 _ => h v' w' h1 ((Below.refl base w).grown h2 hbase (fun k hk => (hown.lt k hk).1)))
  rcases hsl.shape with ⟨rfl, ad, cap, e⟩ | ⟨b, of, cap, e, _, _, _⟩
  · cases ad with
    | some ad => exact key ad cap e
    | none =>
      obtain ⟨_, hc⟩ := hnil 0 cap e
      subst hc
      exact wpList_append_own_none hgd s x _ ho base 5 i0 1 Tryd.underlying28 hi v n xs hs hown (by rw [hx, e]) (h v w (by simpa using hown) (Below.refl _ _))
  · exact key _ cap e

theorem cells_one (ps : List Pc) : ∀ y ∈ cellsL ps, y.oneCell' = true := fun y hy => by
  unfold cellsL at hy
  obtain ⟨x, hx, hyx⟩ := List.mem_flatten.1 hy
  obtain ⟨p, _, rfl⟩ := List.mem_map.1 hx
  exact one5 _ _ _ _ _ y hyx
theorem cellsL_app (ps qs : List Pc) : cellsL (ps ++ qs) = cellsL ps ++ cellsL qs := by unfold cellsL; simp

theorem app_pieces {w : World} {ops : Array Oper} {rest : List Oper} {o : Oper} {a : Act} {Q : Exit → Act → World → Prop} (hgd : Region.wanted o (yielded ops a.tmps) = true) (s x : Operand)
    (ho : o.op = .call { callee := .builtin .append, args := #[s, x], argTypes := #[48, 48] })
    (base : Nat) (v : Value) (n : Nat) (ps : List Pc) (hs : a.eval s = v) (hown : w.ownsRow base 58 5 v n (cellsL ps)) (vx : Value) (B : Nat) (qs : List Pc) (hx : a.eval x = vx) (hrow : w.ownsRow B 58 5 vx qs.length (cellsL qs))
    (h63 : n + qs.length ≤ 1048576) (hbase : base ≤ w.heap.size)
    (h : ∀ v' w', w'.ownsRow base 58 5 v' (n + qs.length) (cellsL (ps ++ qs)) → Below base w w' → wpList Tryd.prog ops Q rest (a.put o.dst v') w') : wpList Tryd.prog ops Q (o :: rest) a w := by
  obtain ⟨i0, z0, hi, hz0, hz1, hz2, hz3⟩ := piece_parts
  refine wpList_step fun K hK => ?_
  rw [if_pos hgd]
  rcases hrow.2 with ⟨rfl, h0⟩ | ⟨g, cap, cur, rfl, hgl, hgb, hnc, hcm, hcz, htk⟩
  · have hq : qs = [] := List.length_eq_zero_iff.1 h0
    subst hq
    have hrun := run_append_owned_none (P := Tryd.prog) (w := w) base 48 o.type 58 i0 5 Tryd.underlying48 hi v n _ hown
    unfold Oper.wp
    simp [execOp, ho, resolve, invoke, builtin, hs, hx, hrun, Result.andThen]
    exact hK _ _ (h v w (by simpa using hown) (Below.refl _ _))
  · exact wp_append_own w s x _ ho base 58 i0 z0 5 40 Tryd.underlying48 hi hz0 hz1 hz2 hz3 (by decide) v n _ hs hown ⟨g, 0, none⟩ qs.length cap (cellsL qs) hx (cellsL_len qs) (fun j y hj => hrow.cells (g := g) rfl j y hj) (cells_one qs) (by unfold maxLen; omega) (by omega) hbase
      (fun v' w' h1 h2 _ => hK _ _ (h v' w' (by rw [cellsL_app]; exact h1) ((Below.refl base w).grown h2 hbase (fun k hk => (hown.lt k hk).1))))

theorem app_lit {w : World} {ops : Array Oper} {rest : List Oper} {o : Oper} {a : Act} {Q : Exit → Act → World → Prop} (hgd : o.guard = none) (s x : Operand)
    (ho : o.op = .call { callee := .builtin .append, args := #[s, x], argTypes := #[28, 28] })
    (base : Nat) (v : Value) (n : Nat) (L : List Int) (hs : a.eval s = v) (hown : w.ownsRow base 5 1 v n (L.map (Value.int .u8))) (g m c : Nat) (l : List Int) (hx : a.eval x = .slice (some ⟨g, 0, none⟩) m c) (hm : l.length = m)
    (hnews : ∀ j u, (l.map (Value.int .u8))[j]? = some u → w.cell? ((⟨g, 0, none⟩ : Addr).add j) = some u)
    (h63 : n + m ≤ 1048576) (hbase : base ≤ w.heap.size)
    (h : ∀ v' w', w'.ownsRow base 5 1 v' (n + m) ((L ++ l).map (Value.int .u8)) → Below base w w' → (∀ g, g < w.heap.size → v.ownBlock ≠ some g → v'.ownBlock ≠ some g ∧ w'.heap[g]? = w.heap[g]?) → wpList Tryd.prog ops Q rest (a.put o.dst v') w') : wpList Tryd.prog ops Q (o :: rest) a w := by
  obtain ⟨i0, hi, hz0, hz1, hz2⟩ := info_parts byte_row
  refine wpList_append_own_at w hgd s x _ ho base 5 i0 (.int .u8 0) 1 1 Tryd.underlying28 hi hz0 hz1 hz2 rfl (by decide) v n _ hs hown ⟨g, 0, none⟩ m c (l.map (Value.int .u8)) hx (by simp [hm]) hnews (oneB l) (by unfold maxLen; omega) (by omega) hbase
      (fun v' w' h1 h2 _ h4 => h v' w' (by rw [List.map_append]; exact h1) ((Below.refl base w).grown h2 hbase (fun k hk => (hown.lt k hk).1)) (fun g hg hne => ⟨?_, h2.block g hg (fun e => hne e.symm)⟩))
  rcases h4 with h4 | h4
  · rw [h4]; exact hne
  · rw [h4]
    intro e
    obtain rfl := Option.some.inj e
    exact Nat.lt_irrefl _ hg
theorem news1 (X : World) (c : Int) (z : Nat × Nat) : ∀ j u, ([c].map (Value.int .u8))[j]? = some u → (X.alloc (.cells #[.int .u8 c] 5 z)).cell? ((⟨X.heap.size, 0, none⟩ : Addr).add j) = some u := by
  intro j u hj
  have hb := alloc_last X (.cells #[.int .u8 c] 5 z)
  match j, hj with
  | 0, hj =>
    simp at hj
    subst hj
    rw [WideShapes.add_plain]
    exact cell_of_row _ _ _ _ _ _ hb
theorem news2 (X : World) (c d : Int) (z : Nat × Nat) : ∀ j u, ([c, d].map (Value.int .u8))[j]? = some u → (X.alloc (.cells #[.int .u8 c, .int .u8 d] 5 z)).cell? ((⟨X.heap.size, 0, none⟩ : Addr).add j) = some u := by
  intro j u hj
  have hb := alloc_last X (.cells #[.int .u8 c, .int .u8 d] 5 z)
  match j, hj with
  | 0, hj =>
    simp at hj
    subst hj
    rw [WideShapes.add_plain]
    exact cell_of_row _ _ _ _ _ _ hb
  | 1, hj =>
    simp at hj
    subst hj
    rw [WideShapes.add_plain]
    exact cell_of_row _ _ _ _ _ _ hb

/-- Where the text a is open to its end: so far as it was read. -/
theorem openJ_fuel (a : List Int) : ∀ n m k, a.length - k < n → a.length - k < m → openJ a n k = openJ a m k
  | 0, _, _, h, _ => absurd h (by omega)
  | _ + 1, 0, _, _, h => absurd h (by omega)
  | n + 1, m + 1, k, h1, h2 => by
    unfold openJ
    by_cases hk : k < a.length
    · rw [if_pos hk, if_pos hk]
      split
      · rfl
      split
      · split
        · rfl
        · exact openJ_fuel a n m _ (by omega) (by omega)
      · exact openJ_fuel a n m _ (by omega) (by omega)
    · rw [if_neg hk, if_neg hk]
def JJ (a : List Int) (k : Nat) : Prop := openJ a (a.length + 1) k = true → openJ a (a.length + 1) 0 = true
theorem JJ.one {a : List Int} {k : Nat} (h : JJ a k) (hk : k < a.length) (h91 : ¬ a.getD k 0 = 91) (h92 : ¬ a.getD k 0 = 92) : JJ a (k + 1) := fun h1 => h (by
  rw [openJ, if_pos hk, if_neg h91, if_neg h92, openJ_fuel a a.length (a.length + 1) (k + 1) (by omega) (by omega)]
  exact h1)
theorem JJ.two {a : List Int} {k : Nat} (h : JJ a k) (hk : k < a.length) (h92 : a.getD k 0 = 92) (hk1 : ¬ k + 1 = a.length) : JJ a (k + 2) := fun h1 => h (by
  rw [openJ, if_pos hk, if_neg (by rw [h92]; decide), if_pos h92, if_neg hk1, openJ_fuel a a.length (a.length + 1) (k + 2) (by omega) (by omega)]
  exact h1)
theorem JJ.all {a : List Int} (h : JJ a a.length) : openJ a (a.length + 1) 0 = true := h (by rw [openJ, if_neg (Nat.lt_irrefl _)])
end Go.Proofs.YtndgomocehfmgaaDoor
/- A bracket of letters and ranges of letters, read (pure). -/
namespace Go.Proofs.YtndgomocehfmgaaDoor
open Go.RowKit

/-- The k-th letter; where its range ends. -/
def ltr (l : List Int) (k : Nat) : Int := 97 + (l.getD k 0) % 26
def ltd (l : List Int) (k : Nat) : Int := min (ltr l k + 3) 122
def itB (l : List Int) (k : Nat) : List Int := if k % 3 = 2 then [ltr l k, 45, ltd l k] else [ltr l k]
def spB (l : List Int) (k : Nat) : Nat → Bool := if k % 3 = 2 then rng (ltr l k).toNat (ltd l k).toNat else rng (ltr l k).toNat (ltr l k).toNat
def tB (l : List Int) : Nat → List Int
  | 0 => []
  | k + 1 => tB l k ++ itB l k
def sB (l : List Int) : Nat → Nat → Bool
  | 0 => noP
  | k + 1 => orP (sB l k) (spB l k)
theorem ltr_bnd {l : List Int} (h : Byt l) (k : Nat) : 97 ≤ ltr l k ∧ ltr l k ≤ 122 := by have := h k; unfold ltr; omega
theorem ltd_bnd {l : List Int} (h : Byt l) (k : Nat) : ltr l k ≤ ltd l k ∧ ltd l k ≤ 122 := by have := ltr_bnd h k; unfold ltd; omega
theorem itB_len (l : List Int) (k : Nat) : 1 ≤ (itB l k).length ∧ (itB l k).length ≤ 3 := by unfold itB; split <;> simp
theorem tB_len (l : List Int) (k : Nat) : k ≤ (tB l k).length ∧ (tB l k).length ≤ 3 * k := by
  induction k with
  | zero => simp [tB]
  | succ k ih => have := itB_len l k; simp only [tB, List.length_append]; omega
theorem tB_pre (l : List Int) (k : Nat) : ∀ m, ∃ r, tB l (k + m) = tB l k ++ r
  | 0 => ⟨[], by simp⟩
  | m + 1 => by
    obtain ⟨r, hr⟩ := tB_pre l k m
    exact ⟨r ++ itB l (k + m), by rw [← Nat.add_assoc, tB, hr, List.append_assoc]⟩
theorem tB_byt {l : List Int} (h : Byt l) (k : Nat) : Byt (tB l k) := byt_of fun c hc => by
  induction k with
  | zero => simp [tB] at hc
  | succ k ih =>
    have h1 := ltr_bnd h k
    have h2 := ltd_bnd h k
    rw [tB] at hc
    rcases List.mem_append.1 hc with hc | hc
    · exact ih hc
    · unfold itB at hc
      split at hc
      · simp only [List.mem_cons, List.not_mem_nil, or_false] at hc
        rcases hc with rfl | rfl | rfl <;> omega
      · simp only [List.mem_cons, List.not_mem_nil, or_false] at hc
        subst hc
        omega
theorem getD_behind (a b : List Int) (j : Nat) : (a ++ b).getD (a.length + j) 0 = b.getD j 0 := by
  rw [List.getD, List.getElem?_append_right (by omega), show a.length + j - a.length = j by omega]
  rfl
/-- The text with its end. -/
def tE (l : List Int) (n : Nat) : List Int := tB l n ++ [93]
theorem tE_len (l : List Int) (n : Nat) : (tE l n).length = (tB l n).length + 1 := by unfold tE; simp
theorem tE_byt {l : List Int} (h : Byt l) (n : Nat) : Byt (tE l n) := byt_append (tB_byt h n) (byt_of fun c hc => by rw [List.mem_singleton.1 hc]; omega)
theorem tE_at (l : List Int) (n k : Nat) (hk : k < n) : ∃ r, tE l n = tB l k ++ (itB l k ++ (r ++ [93])) := by
  obtain ⟨m, hm⟩ : ∃ m, n = k + 1 + m := ⟨n - (k + 1), by omega⟩
  obtain ⟨r, hr⟩ := tB_pre l (k + 1) m
  exact ⟨r, by unfold tE; rw [hm, hr, tB, List.append_assoc, List.append_assoc]⟩
theorem tE_end (l : List Int) (n : Nat) : (tE l n).getD (tB l n).length 0 = 93 := by
  have := getD_behind (tB l n) [93] 0
  exact this
theorem tE_ltr (l : List Int) (n k : Nat) (hk : k < n) : (tE l n).getD (tB l k).length 0 = ltr l k := by
  obtain ⟨r, hr⟩ := tE_at l n k hk
  have := getD_behind (tB l k) (itB l k ++ (r ++ [93])) 0
  rw [hr]
  refine this.trans ?_
  unfold itB
  split <;> rfl
theorem tE_rng (l : List Int) (n k : Nat) (hk : k < n) (h2 : k % 3 = 2) : (tE l n).getD ((tB l k).length + 1) 0 = 45 ∧ (tE l n).getD ((tB l k).length + 2) 0 = ltd l k := by
  obtain ⟨r, hr⟩ := tE_at l n k hk
  rw [hr]
  unfold itB
  rw [if_pos h2, getD_behind, getD_behind]
  exact ⟨rfl, rfl⟩
theorem atB_listS {l : List Int} (h : Byt l) (k : Nat) : atB (ofBys l) k = l.getD k 0 := by unfold atB; rw [bys_ofBys h]
theorem itemR_ltr (cf : ByteArray → (Nat → Bool) × Bool) (s : ByteArray) (g : Bool) (k : Nat) (h : 97 ≤ atB s k) (h2 : k < s.size) : itemR cf s g k = .byt (atB s k) (k + 1) := by
  unfold itemR
  rw [if_neg (fun h' => by omega), if_neg (fun h' => by omega), if_neg (fun h' => by have := h'.2; omega), if_pos h2]
theorem partR_ltr (cf : ByteArray → (Nat → Bool) × Bool) (g : Bool) {l : List Int} (hl : Byt l) (n k : Nat) (hk : k < n) :
    partR cf (ofBys (tE l n)) g (tB l k).length = .ok (spB l k) (tB l (k + 1)).length := by
  have hE := tE_byt hl n
  have b1 := ltr_bnd hl k
  have b2 := ltd_bnd hl k
  have hz : (ofBys (tE l n)).size = (tE l n).length := ofBys_size _
  obtain ⟨r, hr⟩ := tE_at l n k hk
  have hln := congrArg List.length hr
  simp only [List.length_append, List.length_cons, List.length_nil] at hln
  have hil := itB_len l k
  have e0 : atB (ofBys (tE l n)) (tB l k).length = ltr l k := by rw [atB_listS hE, tE_ltr l n k hk]
  have i0 := itemR_ltr cf (ofBys (tE l n)) g (tB l k).length (by omega) (by omega)
  rw [e0] at i0
  unfold partR
  rw [i0]
  simp only
  have hnx : (tB l (k + 1)).length = (tB l k).length + (itB l k).length := by rw [tB, List.length_append]
  by_cases h2 : k % 3 = 2
  · have hi3 : (itB l k).length = 3 := by unfold itB; rw [if_pos h2]; rfl
    obtain ⟨e1, e2⟩ := tE_rng l n k hk h2
    rw [← atB_listS hE] at e1 e2
    have i2 := itemR_ltr cf (ofBys (tE l n)) g ((tB l k).length + 2) (by omega) (by omega)
    rw [e2] at i2
    rw [if_pos ⟨e1, by rw [e2]; omega⟩, i2]
    simp only
    rw [if_neg (by omega), hnx, hi3]
    unfold spB
    rw [if_pos h2]
  · have hi1 : (itB l k).length = 1 := by unfold itB; rw [if_neg h2]; rfl
    have e1 : ¬ atB (ofBys (tE l n)) ((tB l k).length + 1) = 45 := by
      rw [atB_listS hE, show (tB l k).length + 1 = (tB l (k + 1)).length by omega]
      by_cases hk1 : k + 1 < n
      · have := ltr_bnd hl (k + 1)
        rw [tE_ltr l n (k + 1) hk1]
        omega
      · rw [show k + 1 = n by omega, tE_end]
        decide
    rw [if_neg (fun h => e1 h.1), hnx, hi1]
    unfold spB
    rw [if_neg h2]
theorem brkL_ltr (cf : ByteArray → (Nat → Bool) × Bool) (g : Bool) {l : List Int} (hl : Byt l) (n : Nat) : ∀ (m k : Nat) (first : Bool), k + m = n → (m = 0 → first = false) → ∀ fuel, m < fuel →
    brkL cf (ofBys (tE l n)) g fuel (tB l k).length first (sB l k) = .ok (sB l n) ((tB l n).length + 1)
  | _, _, _, _, _, 0, h => absurd h (by omega)
  | 0, k, first, hk, hf, fuel + 1, _ => by
    have : k = n := by omega
    subst this
    unfold brkL
    rw [if_pos ⟨hf rfl, by rw [atB_listS (tE_byt hl k), tE_end]⟩]
  | m + 1, k, first, hk, _, fuel + 1, hm => by
    have b1 := ltr_bnd hl k
    have e0 : atB (ofBys (tE l n)) (tB l k).length = ltr l k := by rw [atB_listS (tE_byt hl n), tE_ltr l n k (by omega)]
    unfold brkL
    rw [if_neg (fun h => by have := h.2; omega), partR_ltr cf g hl n k (by omega)]
    exact brkL_ltr cf g hl n m (k + 1) false (by omega) (fun _ => rfl) fuel (by omega)
theorem brkR_ltr (cf : ByteArray → (Nat → Bool) × Bool) (g : Bool) {l : List Int} (hl : Byt l) (n : Nat) (hn : 0 < n) : brkR cf (ofBys (tE l n)) g 0 = .ok (sB l n) ((tB l n).length + 1) := by
  have b1 := ltr_bnd hl 0
  have e0 : atB (ofBys (tE l n)) 0 = ltr l 0 := (atB_listS (tE_byt hl n) 0).trans (tE_ltr l n 0 hn)
  have hlen := tB_len l n
  have h := brkL_ltr cf g hl n n 0 true (by omega) (fun h => absurd h (by omega)) ((ofBys (tE l n)).size + 1 - 0) (by rw [ofBys_size, tE_len]; omega)
  unfold brkR
  have hno : ¬ (atB (ofBys (tE l n)) 0 = 94 ∨ (g = true ∧ atB (ofBys (tE l n)) 0 = 33)) := fun h' => by
    rcases h' with h' | ⟨_, h'⟩ <;> omega
  rw [if_neg hno]
  refine (congrArg (brkT false) h).trans ?_
  simp [brkT]
theorem spB_rng (l : List Int) (k : Nat) (h : k % 3 = 2) : spB l k = rng (ltr l k).toNat (ltd l k).toNat := by unfold spB; rw [if_pos h]
/-- One byte alone. -/
theorem spB_one {l : List Int} (hl : Byt l) (k : Nat) (h : ¬ k % 3 = 2) : SV (mem [ltr l k]) = SV (spB l k) := SV_congr fun c _ => by
  have b1 := ltr_bnd hl k
  unfold spB
  rw [if_neg h]
  unfold mem rng
  rw [Bool.eq_iff_iff]
  simp only [decide_eq_true_eq, List.mem_singleton, Bool.and_eq_true]
  omega
theorem itB_rng (l : List Int) (k : Nat) (h : k % 3 = 2) : itB l k = [ltr l k, 45, ltd l k] := by unfold itB; rw [if_pos h]
theorem itB_one (l : List Int) (k : Nat) (h : ¬ k % 3 = 2) : itB l k = [ltr l k] := by unfold itB; rw [if_neg h]
end Go.Proofs.YtndgomocehfmgaaDoor
/- SetBack: its walk, opened (gen_sbk.py). -/

namespace Go.Proofs.YtndgomocehfmgaaDoor
open Go.RowKit

/-- The state within a region that joins a set to the box. -/
structure SbS (w : World) (q sp : Nat → Bool) (c : Int) (v : Value) (n : Nat) (xs : List Value) (d2 d3 d4 d5 d6 : Bool) (u2 u4 : Value) (X : World) : Prop where
  bel : Below w.heap.size w X
  own : X.ownsRow w.heap.size 5 1 v n xs
  box : d6 = false → X.heap[w.heap.size]? = some (.cells #[.int .u64 (sw q 0 : Nat), .int .u64 (sw q 1 : Nat), .int .u64 (sw q 2 : Nat), .int .u64 (sw q 3 : Nat)] 24 (0, 0))
  box' : d6 = true → X.heap[w.heap.size]? = some (.cells #[.int .u64 (sw (orP q sp) 0 : Nat), .int .u64 (sw (orP q sp) 1 : Nat), .int .u64 (sw (orP q sp) 2 : Nat), .int .u64 (sw (orP q sp) 3 : Nat)] 24 (0, 0))
  lit1 : d2 = true → d3 = false → ∃ g, u2 = .slice (some ⟨g, 0, none⟩) 1 1 ∧ X.heap[g]? = some (.cells #[.int .u8 c] 5 (0, 0))
  lit : d4 = true → d5 = false → ∃ b, u4 = .slice (some ⟨b, 0, none⟩) 2 2 ∧ Row4 X b 0 q ∧ Row4 X b 4 sp ∧ b < X.heap.size
theorem SbS.low {w X : World} {q sp : Nat → Bool} {c : Int} {v : Value} {n : Nat} {xs : List Value} {d2 d3 d4 d5 d6 : Bool} {u2 u4 : Value} (h : SbS w q sp c v n xs d2 d3 d4 d5 d6 u2 u4 X) : w.heap.size < X.heap.size := by
  cases d6 with
  | false => exact lt_blkB (h.box rfl)
  | true => exact lt_blkB (h.box' rfl)
theorem SbS.nxt {w X X' : World} {q sp : Nat → Bool} {c : Int} {v : Value} {n : Nat} {xs : List Value} {d2 d3 d4 d5 d6 : Bool} {u2 u4 : Value} (h : SbS w q sp c v n xs d2 d3 d4 d5 d6 u2 u4 X) (hb : Below X.heap.size X X') : SbS w q sp c v n xs d2 d3 d4 d5 d6 u2 u4 X' :=
  ⟨below_thn h.bel (Nat.le_refl _) hb, own_drop h.own hb, fun e => blk_below (h.box e) hb, fun e => blk_below (h.box' e) hb, fun e1 e2 => by
    obtain ⟨g, h1, h2⟩ := h.lit1 e1 e2
    exact ⟨g, h1, blk_below h2 hb⟩, fun e1 e2 => by
    obtain ⟨b, h1, h2, h3, h4⟩ := h.lit e1 e2
    exact ⟨b, h1, row4_keep h2 hb h4, row4_keep h3 hb h4, Nat.lt_of_lt_of_le h4 hb.size⟩⟩
/-- The loop's state: so many letters are written. -/
structure SbI (w : World) (l : List Int) (k : Nat) (v : Value) (X : World) : Prop where
  bel : Below w.heap.size w X
  own : X.ownsRow w.heap.size 5 1 v (tB l k).length ((tB l k).map (Value.int .u8))
  box : X.heap[w.heap.size]? = some (.cells #[.int .u64 (sw (sB l k) 0 : Nat), .int .u64 (sw (sB l k) 1 : Nat), .int .u64 (sw (sB l k) 2 : Nat), .int .u64 (sw (sB l k) 3 : Nat)] 24 (0, 0))
theorem blk_putS {X : World} {b i : Nat} {cs : Array Value} {y : Value} {T : TypeId} (h : X.heap[b]? = some (.cells cs T (0, 0))) : (X.setCell ⟨b, i, none⟩ y).heap[b]? = some (.cells (cs.setIfInBounds i y) T (0, 0)) := by
  show (X.heap.modify b _)[b]? = _
  rw [Array.getElem?_modify, if_pos rfl, h]
  rfl
theorem box4 {X : World} {b : Nat} {a0 a1 a2 a3 b0 b1 b2 b3 : Value} {t : TypeId} (h : X.heap[b]? = some (.cells #[a0, a1, a2, a3] t (0, 0))) :
    ((((X.setCell ⟨b, 0, none⟩ b0).setCell ⟨b, 1, none⟩ b1).setCell ⟨b, 2, none⟩ b2).setCell ⟨b, 3, none⟩ b3).heap[b]? = some (.cells #[b0, b1, b2, b3] t (0, 0)) :=
  blk_putS (blk_putS (blk_putS (blk_putS h)))
theorem own_box {X : World} {B n b : Nat} {v b0 b1 b2 b3 : Value} {xs : List Value} {cs : Array Value} (hown : X.ownsRow B 5 1 v n xs) (hb : X.heap[b]? = some (.cells cs 24 (0, 0))) :
    ((((X.setCell ⟨b, 0, none⟩ b0).setCell ⟨b, 1, none⟩ b1).setCell ⟨b, 2, none⟩ b2).setCell ⟨b, 3, none⟩ b3).ownsRow B 5 1 v n xs := by
  have hn : v.ownBlock ≠ some b := own_neK hown hb (by decide)
  exact (((hown.kept (grown_set X b 0 b0) (Or.inr hn)).kept (grown_set _ b 1 b1) (Or.inr hn)).kept (grown_set _ b 2 b2) (Or.inr hn)).kept (grown_set _ b 3 b3) (Or.inr hn)

theorem news3 (X : World) (c d e : Int) (z : Nat × Nat) : ∀ j u, ([c, d, e].map (Value.int .u8))[j]? = some u → (X.alloc (.cells #[.int .u8 c, .int .u8 d, .int .u8 e] 5 z)).cell? ((⟨X.heap.size, 0, none⟩ : Addr).add j) = some u := by
  intro j u hj
  have hb := alloc_last X (.cells #[.int .u8 c, .int .u8 d, .int .u8 e] 5 z)
  match j, hj with
  | 0, hj =>
    simp at hj
    subst hj
    rw [WideShapes.add_plain]
    exact cell_of_row _ _ _ _ _ _ hb
  | 1, hj =>
    simp at hj
    subst hj
    rw [WideShapes.add_plain]
    exact cell_of_row _ _ _ _ _ _ hb
  | 2, hj =>
    simp at hj
    subst hj
    rw [WideShapes.add_plain]
    exact cell_of_row _ _ _ _ _ _ hb
theorem sl_blk1 {X : World} {g : Nat} {c : Int} (hc : 0 ≤ c ∧ c ≤ 255) (h : X.heap[g]? = some (.cells #[.int .u8 c] 5 (0, 0))) : Sl X (.slice (some ⟨g, 0, none⟩) 1 1) [c] :=
  ⟨byt_of (fun z hz => by rw [List.mem_singleton.1 hz]; exact hc), by simp, Or.inr ⟨g, 0, 1, rfl, by simp, by decide, fun i hi => by
    have h0 : i = 0 := (by simpa using hi)
    subst h0
    rw [Lib.cell_of_heap h]
    rfl⟩⟩

set_option maxRecDepth 100000 in
set_option maxHeartbeats 16000000 in
theorem setback_any (cf : ByteArray → (Nat → Bool) × Bool) (hcf : ClassOk cf) (e : Nat → Addr) (va : Value) (l : List Int) (lang : Int) (w : World) (he : Es w w.heap.size e) (hT : TZ w) (hD : DB w) (hsa : Sl w va l) :
    Calls Tryd.prog 6 #[va, .int .i64 lang] w fun x w' => x = .returned (.bool true) ∧ Below w.heap.size w w' := by
  have hes : ∀ X, Below w.heap.size w X → Es X X.heap.size e := fun X hX => ⟨(he.below hX).var, Nat.lt_of_lt_of_le he.low hX.size, Nat.le_refl _⟩
  have HA : ∀ (X : World), Hid (Calls Tryd.prog 13 #[] X fun e w' => e = .returned (.bool true) ∧ Below X.heap.size X w') := fun X => Lib.hid (awake5_any X)
  have HX : ∀ (p : Nat → Bool) (X : World), Below w.heap.size w X → Hid (Calls Tryd.prog 11 #[.agg #[.int .u64 (sw p 0 : Nat), .int .u64 (sw p 1 : Nat), .int .u64 (sw p 2 : Nat), .int .u64 (sw p 3 : Nat)]] X fun e w' => e = .returned (.string (textS p)) ∧ Below X.heap.size X w') := fun p X hX => Lib.hid (text_any p X (hT.below hX) (hD.below hX))
  have HXH := Lib.hid HX
  have hyb := hsa.1
  have HBR : ∀ (X : World) (v : Value) (n : Nat) (lg : Int), 0 < n → n ≤ 40 → Below w.heap.size w X → Sl X v (tE l n) → (lg = 2 ∨ lg = 3 ∨ lg = 4) → Hid (Calls Tryd.prog 14 #[v, .int .i64 0, .int .i64 lg] X fun x w' => x = .returned (.tuple #[SV (sB l n), .int .i64 (((tB l n).length : Int) + 1), .nilIface]) ∧ Below X.heap.size X w') := fun X v n lg h0 h40 hX hs hlg => by
    have hln := tB_len l n
    have h := bkt_any cf hcf e v (tE l n) 0 lg (by rw [tE_len]; omega) X (hes X hX) hs (Nat.zero_le _) hlg
    rw [List.drop_zero, brkR_ltr cf (decide (lg = 2)) hyb n h0] at h
    refine Lib.hid (h.mono ?_)
    rintro x w' ⟨rfl, hb⟩
    exact ⟨by rw [Nat.zero_add, Int.natCast_add]; rfl, hb⟩
  have HBRH := Lib.hid HBR
  have HUN : Hid (∀ (q sp : Nat → Bool) (X : World) (b : Nat), Row4 X b 0 q → Row4 X b 4 sp → b < X.heap.size → Calls Tryd.prog 18 #[.slice (some ⟨b, 0, none⟩) 2 2] X fun e w' => e = .returned (SV (orP q sp)) ∧ Below X.heap.size X w') := Lib.hid fun q sp X b h1 h2 h3 => union2_any q sp b 2 X h1 h2 h3
  have HSA := Lib.hid hsa
  have HYB := Lib.hid hyb
  obtain ⟨aa, ac, hva⟩ : ∃ a c, va = .slice a l.length c := by
    rcases hsa.shape with ⟨rfl, a, cap, rfl⟩ | ⟨x, o, cap, rfl, _⟩
    · exact ⟨a, cap, rfl⟩
    · exact ⟨_, cap, rfl⟩
  subst hva
  have HROW : Hid (∀ k, k < l.length → ∃ b o, aa = some ⟨b, o, none⟩ ∧ w.cell? ⟨b, o + k, none⟩ = some (.int .u8 (l.getD k 0))) := Lib.hid (fun k hk => by
    rcases hsa.shape with ⟨rfl, _⟩ | ⟨x, o, cap, e, _, _, hr⟩
    · simp at hk
    · simp only [Value.slice.injEq] at e
      exact ⟨x, o, e.1, hr k hk⟩)
  clear hcf he hT hD hsa hes HX HBR hyb
  obtain ⟨n, hn⟩ : ∃ n, n = l.length := ⟨_, rfl⟩
  have HN := Lib.hid hn
  rw [← hn] at HSA
  rw [← hn]
  have hnb : n ≤ 9223372036854775807 := by rw [hn]; exact HSA.out.2.1
  clear hn
  have HI0 : Hid (SbI w l 0 (.slice none 0 0) (w.alloc (.cells #[.int .u64 0, .int .u64 0, .int .u64 0, .int .u64 0] 24))) := Lib.hid ⟨(Below.refl _ _).alloc (Nat.le_refl _) _, World.ownsRow_nil _ _ _ _, by
    have h := alloc_last w (.cells #[.int .u64 0, .int .u64 0, .int .u64 0, .int .u64 0] 24)
    have z : ∀ i, ((sw (sB l 0) i : Nat) : Int) = 0 := sw_zero
    rw [z, z, z, z]
    exact h⟩
  obtain ⟨lg, hlg⟩ : ∃ lg : Int, lg = 2 + (lang.tmod 3 + 3).tmod 3 := ⟨_, rfl⟩
  have hlg3 : lg = 2 ∨ lg = 3 ∨ lg = 4 := by 
    have h1 := Int.tmod_lt_of_pos lang (b := 3) (by decide)
    have h2 := Int.lt_tmod_of_pos lang (b := 3) (by decide)
    have h3 := Int.tmod_eq_emod_of_nonneg (a := lang.tmod 3 + 3) (b := 3) (by omega)
    rw [hlg, h3]
    omega
  have hw1 : wrap64 (lang.tmod 3 + 3) = lang.tmod 3 + 3 := by
    have h1 := Int.tmod_lt_of_pos lang (b := 3) (by decide)
    have h2 := Int.lt_tmod_of_pos lang (b := 3) (by decide)
    rw [wrap64]
    omega
  have hw2 : wrap64 (2 + (lang.tmod 3 + 3).tmod 3) = lg := by
    rw [← hlg, wrap64]
    omega
  have HL3 := Lib.hid hlg3
  clear hlg hlg3
  go_enter Tryd.func6, Tryd.ntmps6
  go_wp2_with fail
  rw [hw2]
  clear hw1 hw2
  go_loopw [5, 21] (fun v i X => ∃ k, i = .int .i64 (k : Nat) ∧ k ≤ n ∧ k ≤ 40 ∧ Hid (SbI w l k v X)) (fun _ i _ => n - (intOf i).toNat)
  case atStart => exact ⟨0, rfl, Nat.zero_le _, by omega, HI0⟩
  case round =>
    obtain ⟨k, rfl, hk, hk40, HI⟩ := hrel
    have hln := tB_len l k
    have HBX := Lib.hid HI.out.box
    have hwz : w.heap.size < wr.heap.size := lt_blkB HI.out.box
    have HNE : Hid (u5.ownBlock ≠ some w.heap.size) := Lib.hid (own_neK HI.out.own HI.out.box (by decide))
    have HOA : Hid (∀ o, (wr.alloc o).ownsRow w.heap.size 5 1 u5 (tB l k).length ((tB l k).map (Value.int .u8))) := Lib.hid (fun o => own_drop HI.out.own ((Below.refl _ _).alloc (Nat.le_refl _) _))
    have HBA : Hid (∀ o, Below w.heap.size w (wr.alloc o)) := Lib.hid (fun o => HI.out.bel.alloc HI.out.bel.size _)
    have HXA : Hid (∀ o, (wr.alloc o).heap[w.heap.size]? = some (.cells #[.int .u64 (sw (sB l k) 0 : Nat), .int .u64 (sw (sB l k) 1 : Nat), .int .u64 (sw (sB l k) 2 : Nat), .int .u64 (sw (sB l k) 3 : Nat)] 24 (0, 0))) := Lib.hid (fun o => blk_alloc HBX.out o)
    by_cases hlt : k < n
    · have hltL : k < l.length := by rw [← HN.out]; exact hlt
      obtain ⟨b, o, rfl, hc⟩ := HROW.out k hltL
      have hbz := World.block_lt_of_cell? _ _ hc
      have hcc : wr.cell? ⟨b, o + k, none⟩ = some (.int .u8 (l.getD k 0)) := (HI.out.bel.cell (p := ⟨b, o + k, none⟩) hbz).trans hc
      have hkI : (k : Int) < (n : Int) := by omega
      have hby := HYB.out k
      obtain ⟨c0, hc0⟩ : ∃ c0, c0 = l.getD k 0 := ⟨_, rfl⟩
      rw [← hc0] at hcc hby
      obtain ⟨c1, hc1⟩ : ∃ c1 : Nat, 97 + c0 % 26 = (c1 : Int) := ⟨(97 + c0 % 26).toNat, by omega⟩
      obtain ⟨d1, hd1⟩ : ∃ d1 : Nat, min ((c1 : Int) + 3) 122 = (d1 : Int) := ⟨(min ((c1 : Int) + 3) 122).toNat, by omega⟩
      have HLT : Hid (ltr l k = (c1 : Int)) := Lib.hid (by rw [← hc1, hc0]; rfl)
      have HLD : Hid (ltd l k = (d1 : Int)) := Lib.hid (by rw [← hd1, ← HLT.out]; rfl)
      have hcb : 97 ≤ c1 ∧ c1 ≤ 122 := by omega
      have hdb : d1 < 256 := by omega
      obtain ⟨q, hq⟩ : ∃ q, q = sB l k := ⟨_, rfl⟩
      obtain ⟨sp, hsp⟩ : ∃ sp, sp = spB l k := ⟨_, rfl⟩
      have HQS : Hid (sB l (k + 1) = orP q sp) := Lib.hid (by rw [hq, hsp]; rfl)
      rw [← hq] at HXA
      have HSP := Lib.hid hsp
      have HQ := Lib.hid hq
      clear hc hc0 hbz hq hsp
      by_cases h40 : k < 40
      · have hI40 : ¬ (40 : Int) ≤ (k : Int) := by omega
        by_cases h3 : k % 3 = 2
        · have HTB : Hid (tB l (k + 1) = tB l k ++ [(c1 : Int), 45, (d1 : Int)]) := Lib.hid (by rw [tB, itB_rng l k h3, HLT.out, HLD.out])
          have HRA : ∀ X, Hid (Calls Tryd.prog 19 #[.int .u8 (c1 : Nat), .int .u8 (d1 : Nat)] X fun e w' => e = .returned (.agg #[.int .u64 (sw sp 0 : Nat), .int .u64 (sw sp 1 : Nat), .int .u64 (sw sp 2 : Nat), .int .u64 (sw sp 3 : Nat)]) ∧ Below X.heap.size X w') := fun X => Lib.hid (by
            have h := range_any c1 d1 (by omega) hdb X
            rw [show rng c1 d1 = sp by rw [HSP.out, spB_rng l k h3, HLT.out, HLD.out]; rfl] at h
            exact h)
          go_wp2_with (at_builtin; go_loud (refine app_lit rfl (.tmp 37) (.tmp 40) rfl w.heap.size _ _ _ rfl (HOA.out _) _ 3 3 [(c1 : Int), 45, (d1 : Int)] rfl rfl (news3 _ _ _ _ _) (by omega) (HBA.out _).size ?_))
          intro v4 w4 hown4 hb4 hk4
          have HO4 := Lib.hid hown4
          have HB4 := Lib.hid ((HBA.out _).trans hb4)
          have HX4 := Lib.hid ((hk4 w.heap.size (by first | omega | (simp only [World.size_alloc]; omega) | (simp; omega)) HNE.out).2.trans (HXA.out _))
          obtain ⟨a4, cap4, hv4⟩ := own_shapeK hown4
          clear hown4 hb4 hk4 hcc
          subst hv4
          go_wp2_with fail
          refine Reg.wp_region_sto (fun L u X => SbS w q sp (c1 : Int) (.slice a4 ((tB l k).length + 3) cap4) ((tB l k).length + 3) ((tB l k ++ [(c1 : Int), 45, (d1 : Int)]).map (Value.int .u8)) (false) (false) (L 4) (L 5) (L 6) (undef) (u 4) X) (fun j => ([some (.agg #[.int .u64 (sw q 0 : Nat), .int .u64 (sw q 1 : Nat), .int .u64 (sw q 2 : Nat), .int .u64 (sw q 3 : Nat)]), some (.int .u8 (c1 : Nat)), some (.int .u8 (d1 : Nat)), some (.agg #[.int .u64 (sw sp 0 : Nat), .int .u64 (sw sp 1 : Nat), .int .u64 (sw sp 2 : Nat), .int .u64 (sw sp 3 : Nat)]), none, some (.agg #[.int .u64 (sw (orP q sp) 0 : Nat), .int .u64 (sw (orP q sp) 1 : Nat), .int .u64 (sw (orP q sp) 2 : Nat), .int .u64 (sw (orP q sp) 3 : Nat)]), none] : List (Option Value)).getD j none) (by kernel_rfl) (by kernel_rfl) (by kernel_rfl) (by kernel_rfl) ?rs0 ?rsE ?rsZ
          case rs0 => exact ⟨HB4.out.drew, by rw [List.map_append]; exact own_drop HO4.out (Below.refl _ _).drew, fun _ => HX4.out, fun h => (by cases h), fun h => (by cases h), fun h => (by cases h)⟩
          case rsE =>
            refine Reg.EachG.plain rfl (fun L u T X hL hz hS hk K hK => ?_) ?_
            · skip
              have g6 : T[6]? = some (.pointer (some ⟨w.heap.size, 0, none⟩)) := hk.old 6 (by kernel_rfl) rfl
              have hd : L 6 = false := hz 6 (by kernel_rfl)
              obtain ⟨⟨y0, y1, y2, y3⟩, _, hbz⟩ := cells4 (hS.box hd)
              have hK := hK _ X hS (fun _ hx => Option.some.inj hx)
              clear hk hz hL hd
              go_simp
              exact hK
            refine Reg.EachG.plain rfl (fun L u T X hL hz hS hk K hK => ?_) ?_
            · skip
              have g8 : T[8]? = some (.int .u8 (c1 : Nat)) := hk.old 8 (by kernel_rfl) rfl
              have hK := hK _ X hS (fun _ hx => Option.some.inj hx)
              clear hk hz hL
              go_simp
              exact hK
            refine Reg.EachG.plain rfl (fun L u T X hL hz hS hk K hK => ?_) ?_
            · skip
              have g9 : T[9]? = some (.int .u8 (d1 : Nat)) := hk.old 9 (by kernel_rfl) rfl
              have hK := hK _ X hS (fun _ hx => Option.some.inj hx)
              clear hk hz hL
              go_simp
              exact hK
            refine Reg.EachG.plain rfl (fun L u T X hL hz hS hk K hK => ?_) ?_
            · skip
              have g43 : T[43]? = some (.int .u8 (c1 : Nat)) := hk.val 1 43 (by kernel_rfl) (by kernel_rfl) rfl
              have g44 : T[44]? = some (.int .u8 (d1 : Nat)) := hk.val 2 44 (by kernel_rfl) (by kernel_rfl) rfl
              clear hk hz
              go_simp
              refine ((HRA X).out).mono ?_
              rintro e w5 ⟨rfl, hb⟩
              exact hK _ _ (hS.nxt hb) (fun _ hx => Option.some.inj hx)
            refine Reg.EachG.plain rfl (fun L u T X hL hz hS hk K hK => ?_) ?_
            · skip
              have g42 : T[42]? = some (.agg #[.int .u64 (sw q 0 : Nat), .int .u64 (sw q 1 : Nat), .int .u64 (sw q 2 : Nat), .int .u64 (sw q 3 : Nat)]) := hk.val 0 42 (by kernel_rfl) (by kernel_rfl) rfl
              have g45 : T[45]? = some (.agg #[.int .u64 (sw sp 0 : Nat), .int .u64 (sw sp 1 : Nat), .int .u64 (sw sp 2 : Nat), .int .u64 (sw sp 3 : Nat)]) := hk.val 3 45 (by kernel_rfl) (by kernel_rfl) rfl
              have hN := hS.nxt ((Below.refl _ X).alloc (Nat.le_refl _) (.cells #[.int .u64 (sw q 0 : Nat), .int .u64 (sw q 1 : Nat), .int .u64 (sw q 2 : Nat), .int .u64 (sw q 3 : Nat), .int .u64 (sw sp 0 : Nat), .int .u64 (sw sp 1 : Nat), .int .u64 (sw sp 2 : Nat), .int .u64 (sw sp 3 : Nat)] 24))
              have hK := hK (.slice (some ⟨X.heap.size, 0, none⟩) 2 2) _ ⟨hN.bel, hN.own, hN.box, hN.box', hN.lit1, fun _ _ => ⟨X.heap.size, rfl, (row4_two _ _ _ _).1, (row4_two _ _ _ _).2, by simp⟩⟩ (fun _ hx => by cases hx)
              clear hk hz hL hS hN
              go_simp
              exact hK
            refine Reg.EachG.plain rfl (fun L u T X hL hz hS hk K hK => ?_) ?_
            · skip
              obtain ⟨g46, l46⟩ := hk.any 4 46 (by kernel_rfl) (by kernel_rfl)
              obtain ⟨b', e4, h1, h2, h3⟩ := hS.lit l46 hL
              rw [e4] at g46
              clear hk hz
              go_simp
              refine (HUN.out _ _ X b' h1 h2 h3).mono ?_
              rintro e w5 ⟨rfl, hb⟩
              have hN := hS.nxt hb
              exact hK _ _ ⟨hN.bel, hN.own, hN.box, hN.box', hN.lit1, fun _ h => (by rw [Reg.upd_same] at h; cases h)⟩ (fun _ hx => Option.some.inj hx)
            refine Reg.EachG.plain rfl (fun L u T X hL hz hS hk K hK => ?_) ?_
            · skip
              have g6 : T[6]? = some (.pointer (some ⟨w.heap.size, 0, none⟩)) := hk.old 6 (by kernel_rfl) rfl
              have g47 : T[47]? = some (.agg #[.int .u64 (sw (orP q sp) 0 : Nat), .int .u64 (sw (orP q sp) 1 : Nat), .int .u64 (sw (orP q sp) 2 : Nat), .int .u64 (sw (orP q sp) 3 : Nat)]) := hk.val 5 47 (by kernel_rfl) (by kernel_rfl) rfl
              obtain ⟨_, lu⟩ := hk.any 5 47 (by kernel_rfl) (by kernel_rfl)
              obtain ⟨⟨y0, y1, y2, y3⟩, ⟨f0, f1, f2, f3⟩, hbz⟩ := cells4 (hS.box hL)
              have hK := hK undef ((((X.setCell ⟨w.heap.size, 0, none⟩ (.int .u64 (sw (orP q sp) 0 : Nat))).setCell ⟨w.heap.size, 1, none⟩ (.int .u64 (sw (orP q sp) 1 : Nat))).setCell ⟨w.heap.size, 2, none⟩ (.int .u64 (sw (orP q sp) 2 : Nat))).setCell ⟨w.heap.size, 3, none⟩ (.int .u64 (sw (orP q sp) 3 : Nat))) ⟨(((hS.bel.setCell (Nat.le_refl _) _).setCell (Nat.le_refl _) _).setCell (Nat.le_refl _) _).setCell (Nat.le_refl _) _, own_box hS.own (hS.box hL), fun h => (by rw [Reg.upd_same] at h; cases h), fun _ => box4 (hS.box hL), fun h => (by cases h), fun _ h => (by rw [Reg.upd_ne _ _ (by decide), lu] at h; cases h)⟩ (fun _ hx => by cases hx)
              clear hk hz hL hS
              go_simp
              exact hK
            exact Reg.EachG.nil
          case rsZ =>
            intro L u w1 hL hS hI
            have e0 : u 0 = .agg #[.int .u64 (sw q 0 : Nat), .int .u64 (sw q 1 : Nat), .int .u64 (sw q 2 : Nat), .int .u64 (sw q 3 : Nat)] := hI 0 (by decide) _ rfl
            have e1 : u 1 = .int .u8 (c1 : Nat) := hI 1 (by decide) _ rfl
            have e2 : u 2 = .int .u8 (d1 : Nat) := hI 2 (by decide) _ rfl
            have e3 : u 3 = .agg #[.int .u64 (sw sp 0 : Nat), .int .u64 (sw sp 1 : Nat), .int .u64 (sw sp 2 : Nat), .int .u64 (sw sp 3 : Nat)] := hI 3 (by decide) _ rfl
            have e5 : u 5 = .agg #[.int .u64 (sw (orP q sp) 0 : Nat), .int .u64 (sw (orP q sp) 1 : Nat), .int .u64 (sw (orP q sp) 2 : Nat), .int .u64 (sw (orP q sp) 3 : Nat)] := hI 5 (by decide) _ rfl
            clear hI
            simp only [Reg.putAll, Act.put, List.setIfInBounds_toArray, List.set_cons_succ, List.set_cons_zero, Nat.zero_add, Nat.reduceAdd, e0, e1, e2, e3, e5]
            clear e0 e1 e2 e3 e5
            have hbx := hS.box' (hL 6 (by decide))
            have HR : Hid (SbI w l (k + 1) (.slice a4 ((tB l k).length + 3) cap4) w1) := Lib.hid ⟨hS.bel, by rw [HTB.out, List.length_append]; exact hS.own, by rw [HQS.out]; exact hbx⟩
            clear hS hbx hL
            go_wp2_with fail
            go_roundw
            case rel => exact ⟨k + 1, by go_num, by omega, by omega, HR⟩
            case measure => simp [intOf]; omega
        · have HTB : Hid (tB l (k + 1) = tB l k ++ [(c1 : Int)]) := Lib.hid (by rw [tB, itB_one l k h3, HLT.out])
          have HOF : ∀ X, Hid (Calls Tryd.prog 20 #[.string (ofBys [(c1 : Int)])] X fun e w' => e = .returned (.agg #[.int .u64 (sw sp 0 : Nat), .int .u64 (sw sp 1 : Nat), .int .u64 (sw sp 2 : Nat), .int .u64 (sw sp 3 : Nat)]) ∧ Below X.heap.size X w') := fun X => Lib.hid (by
            have h := of_any (ofBys [(c1 : Int)]) X (by rw [ofBys_size]; simp)
            rw [bys_ofBys (byt_of fun z hz => by rw [List.mem_singleton.1 hz]; omega), ← HLT.out, spB_one HYB.out k h3, ← HSP.out, HLT.out] at h
            exact h)
          go_wp2_with (at_builtin; refine app_lit rfl (.tmp 48) (.tmp 50) rfl w.heap.size _ _ _ rfl (HOA.out _) _ 1 1 [(c1 : Int)] rfl rfl (news1 _ _ _) (by omega) (HBA.out _).size ?_)
          intro v4 w4 hown4 hb4 hk4
          have HO4 := Lib.hid hown4
          have HB4 := Lib.hid ((HBA.out _).trans hb4)
          have HX4 := Lib.hid ((hk4 w.heap.size (by first | omega | (simp only [World.size_alloc]; omega) | (simp; omega)) HNE.out).2.trans (HXA.out _))
          obtain ⟨a4, cap4, hv4⟩ := own_shapeK hown4
          clear hown4 hb4 hk4 hcc
          subst hv4
          go_wp2_with fail
          refine Reg.wp_region_sto (fun L u X => SbS w q sp (c1 : Int) (.slice a4 ((tB l k).length + 1) cap4) ((tB l k).length + 1) ((tB l k ++ [(c1 : Int)]).map (Value.int .u8)) (L 2) (L 3) (L 5) (L 6) (L 7) (u 2) (u 5) X) (fun j => ([some (.agg #[.int .u64 (sw q 0 : Nat), .int .u64 (sw q 1 : Nat), .int .u64 (sw q 2 : Nat), .int .u64 (sw q 3 : Nat)]), some (.int .u8 (c1 : Nat)), none, some (.string (ofBys [(c1 : Int)])), some (.agg #[.int .u64 (sw sp 0 : Nat), .int .u64 (sw sp 1 : Nat), .int .u64 (sw sp 2 : Nat), .int .u64 (sw sp 3 : Nat)]), none, some (.agg #[.int .u64 (sw (orP q sp) 0 : Nat), .int .u64 (sw (orP q sp) 1 : Nat), .int .u64 (sw (orP q sp) 2 : Nat), .int .u64 (sw (orP q sp) 3 : Nat)]), none] : List (Option Value)).getD j none) (by kernel_rfl) (by kernel_rfl) (by kernel_rfl) (by kernel_rfl) ?rs0 ?rsE ?rsZ
          case rs0 => exact ⟨HB4.out.drew, by rw [List.map_append]; exact own_drop HO4.out (Below.refl _ _).drew, fun _ => HX4.out, fun h => (by cases h), fun h => (by cases h), fun h => (by cases h)⟩
          case rsE =>
            refine Reg.EachG.plain rfl (fun L u T X hL hz hS hk K hK => ?_) ?_
            · skip
              have g6 : T[6]? = some (.pointer (some ⟨w.heap.size, 0, none⟩)) := hk.old 6 (by kernel_rfl) rfl
              have hd : L 7 = false := hz 7 (by kernel_rfl)
              obtain ⟨⟨y0, y1, y2, y3⟩, _, hbz⟩ := cells4 (hS.box hd)
              have hK := hK _ X hS (fun _ hx => Option.some.inj hx)
              clear hk hz hL hd
              go_simp
              exact hK
            refine Reg.EachG.plain rfl (fun L u T X hL hz hS hk K hK => ?_) ?_
            · skip
              have g8 : T[8]? = some (.int .u8 (c1 : Nat)) := hk.old 8 (by kernel_rfl) rfl
              have hK := hK _ X hS (fun _ hx => Option.some.inj hx)
              clear hk hz hL
              go_simp
              exact hK
            refine Reg.EachG.plain rfl (fun L u T X hL hz hS hk K hK => ?_) ?_
            · skip
              have g53 : T[53]? = some (.int .u8 (c1 : Nat)) := hk.val 1 53 (by kernel_rfl) (by kernel_rfl) rfl
              have hN := hS.nxt ((Below.refl _ X).alloc (Nat.le_refl _) (.cells #[.int .u8 (c1 : Nat)] 5))
              have hK := hK (.slice (some ⟨X.heap.size, 0, none⟩) 1 1) _ ⟨hN.bel, hN.own, hN.box, hN.box', fun _ _ => ⟨X.heap.size, rfl, alloc_last X _⟩, hN.lit⟩ (fun _ hx => by cases hx)
              clear hk hz hL hS hN
              go_simp
              exact hK
            refine Reg.EachG.plain rfl (fun L u T X hL hz hS hk K hK => ?_) ?_
            · skip
              obtain ⟨g54, l54⟩ := hk.any 2 54 (by kernel_rfl) (by kernel_rfl)
              obtain ⟨g', e2, hg⟩ := hS.lit1 l54 hL
              rw [e2] at g54
              have hcv := conv_string (sl_blk1 (by omega) hg)
              have hK := hK _ X ⟨hS.bel, hS.own, hS.box, hS.box', fun _ h => (by rw [Reg.upd_same] at h; cases h), hS.lit⟩ (fun _ hx => Option.some.inj hx)
              clear hk hz hL hS hg
              go_simp
              exact hK
            refine Reg.EachG.plain rfl (fun L u T X hL hz hS hk K hK => ?_) ?_
            · skip
              have g55 : T[55]? = some (.string (ofBys [(c1 : Int)])) := hk.val 3 55 (by kernel_rfl) (by kernel_rfl) rfl
              clear hk hz
              go_simp
              refine ((HOF X).out).mono ?_
              rintro e w5 ⟨rfl, hb⟩
              exact hK _ _ (hS.nxt hb) (fun _ hx => Option.some.inj hx)
            refine Reg.EachG.plain rfl (fun L u T X hL hz hS hk K hK => ?_) ?_
            · skip
              have g52 : T[52]? = some (.agg #[.int .u64 (sw q 0 : Nat), .int .u64 (sw q 1 : Nat), .int .u64 (sw q 2 : Nat), .int .u64 (sw q 3 : Nat)]) := hk.val 0 52 (by kernel_rfl) (by kernel_rfl) rfl
              have g56 : T[56]? = some (.agg #[.int .u64 (sw sp 0 : Nat), .int .u64 (sw sp 1 : Nat), .int .u64 (sw sp 2 : Nat), .int .u64 (sw sp 3 : Nat)]) := hk.val 4 56 (by kernel_rfl) (by kernel_rfl) rfl
              have hN := hS.nxt ((Below.refl _ X).alloc (Nat.le_refl _) (.cells #[.int .u64 (sw q 0 : Nat), .int .u64 (sw q 1 : Nat), .int .u64 (sw q 2 : Nat), .int .u64 (sw q 3 : Nat), .int .u64 (sw sp 0 : Nat), .int .u64 (sw sp 1 : Nat), .int .u64 (sw sp 2 : Nat), .int .u64 (sw sp 3 : Nat)] 24))
              have hK := hK (.slice (some ⟨X.heap.size, 0, none⟩) 2 2) _ ⟨hN.bel, hN.own, hN.box, hN.box', hN.lit1, fun _ _ => ⟨X.heap.size, rfl, (row4_two _ _ _ _).1, (row4_two _ _ _ _).2, by simp⟩⟩ (fun _ hx => by cases hx)
              clear hk hz hL hS hN
              go_simp
              exact hK
            refine Reg.EachG.plain rfl (fun L u T X hL hz hS hk K hK => ?_) ?_
            · skip
              obtain ⟨g57, l57⟩ := hk.any 5 57 (by kernel_rfl) (by kernel_rfl)
              obtain ⟨b', e4, h1, h2, h3⟩ := hS.lit l57 hL
              rw [e4] at g57
              clear hk hz
              go_simp
              refine (HUN.out _ _ X b' h1 h2 h3).mono ?_
              rintro e w5 ⟨rfl, hb⟩
              have hN := hS.nxt hb
              exact hK _ _ ⟨hN.bel, hN.own, hN.box, hN.box', hN.lit1, fun _ h => (by rw [Reg.upd_same] at h; cases h)⟩ (fun _ hx => Option.some.inj hx)
            refine Reg.EachG.plain rfl (fun L u T X hL hz hS hk K hK => ?_) ?_
            · skip
              have g6 : T[6]? = some (.pointer (some ⟨w.heap.size, 0, none⟩)) := hk.old 6 (by kernel_rfl) rfl
              have g58 : T[58]? = some (.agg #[.int .u64 (sw (orP q sp) 0 : Nat), .int .u64 (sw (orP q sp) 1 : Nat), .int .u64 (sw (orP q sp) 2 : Nat), .int .u64 (sw (orP q sp) 3 : Nat)]) := hk.val 6 58 (by kernel_rfl) (by kernel_rfl) rfl
              obtain ⟨_, lu⟩ := hk.any 6 58 (by kernel_rfl) (by kernel_rfl)
              obtain ⟨⟨y0, y1, y2, y3⟩, ⟨f0, f1, f2, f3⟩, hbz⟩ := cells4 (hS.box hL)
              have hK := hK undef ((((X.setCell ⟨w.heap.size, 0, none⟩ (.int .u64 (sw (orP q sp) 0 : Nat))).setCell ⟨w.heap.size, 1, none⟩ (.int .u64 (sw (orP q sp) 1 : Nat))).setCell ⟨w.heap.size, 2, none⟩ (.int .u64 (sw (orP q sp) 2 : Nat))).setCell ⟨w.heap.size, 3, none⟩ (.int .u64 (sw (orP q sp) 3 : Nat))) ⟨(((hS.bel.setCell (Nat.le_refl _) _).setCell (Nat.le_refl _) _).setCell (Nat.le_refl _) _).setCell (Nat.le_refl _) _, own_box hS.own (hS.box hL), fun h => (by rw [Reg.upd_same] at h; cases h), fun _ => box4 (hS.box hL), fun h1 h2 => (by obtain ⟨g, e1, e2⟩ := hS.lit1 h1 h2; exact ⟨g, e1, by rw [Below.heap_setCell _ _ _ _ (by intro h; subst h; exact absurd ((hS.box hL).symm.trans e2) (by simp)), Below.heap_setCell _ _ _ _ (by intro h; subst h; exact absurd ((hS.box hL).symm.trans e2) (by simp)), Below.heap_setCell _ _ _ _ (by intro h; subst h; exact absurd ((hS.box hL).symm.trans e2) (by simp)), Below.heap_setCell _ _ _ _ (by intro h; subst h; exact absurd ((hS.box hL).symm.trans e2) (by simp))]; exact e2⟩), fun _ h => (by rw [Reg.upd_ne _ _ (by decide), lu] at h; cases h)⟩ (fun _ hx => by cases hx)
              clear hk hz hL hS
              go_simp
              exact hK
            exact Reg.EachG.nil
          case rsZ =>
            intro L u w1 hL hS hI
            have e0 : u 0 = .agg #[.int .u64 (sw q 0 : Nat), .int .u64 (sw q 1 : Nat), .int .u64 (sw q 2 : Nat), .int .u64 (sw q 3 : Nat)] := hI 0 (by decide) _ rfl
            have e1 : u 1 = .int .u8 (c1 : Nat) := hI 1 (by decide) _ rfl
            have e3 : u 3 = .string (ofBys [(c1 : Int)]) := hI 3 (by decide) _ rfl
            have e4 : u 4 = .agg #[.int .u64 (sw sp 0 : Nat), .int .u64 (sw sp 1 : Nat), .int .u64 (sw sp 2 : Nat), .int .u64 (sw sp 3 : Nat)] := hI 4 (by decide) _ rfl
            have e6 : u 6 = .agg #[.int .u64 (sw (orP q sp) 0 : Nat), .int .u64 (sw (orP q sp) 1 : Nat), .int .u64 (sw (orP q sp) 2 : Nat), .int .u64 (sw (orP q sp) 3 : Nat)] := hI 6 (by decide) _ rfl
            clear hI
            simp only [Reg.putAll, Act.put, List.setIfInBounds_toArray, List.set_cons_succ, List.set_cons_zero, Nat.zero_add, Nat.reduceAdd, e0, e1, e3, e4, e6]
            clear e0 e1 e3 e4 e6
            have hbx := hS.box' (hL 7 (by decide))
            have HR : Hid (SbI w l (k + 1) (.slice a4 ((tB l k).length + 1) cap4) w1) := Lib.hid ⟨hS.bel, by rw [HTB.out, List.length_append]; exact hS.own, by rw [HQS.out]; exact hbx⟩
            clear hS hbx hL
            go_wp2_with fail
            go_roundw
            case rel => exact ⟨k + 1, by go_num, by omega, by omega, HR⟩
            case measure => simp [intOf]; omega
      · have hI40 : (40 : Int) ≤ (k : Int) := by omega
        have hk0 : 0 < k := by omega
        rw [HQ.out] at HXA
        clear HQ HQS HSP HLT HLD
        obtain ⟨a5, cap5, hv5⟩ := own_shapeK HI.out.own
        have HBWZ := Lib.hid HI.out.bel
        have HXT : Hid (∀ X v, Below w.heap.size w X → Sl X v (tE l k) → Hid (Calls Tryd.prog 14 #[v, .int .i64 0, .int .i64 lg] X fun x w' => x = .returned (.tuple #[SV (sB l k), .int .i64 (((tB l k).length : Int) + 1), .nilIface]) ∧ Below X.heap.size X w')) := Lib.hid (fun X v hX hs => HBRH.out X v k lg hk0 hk40 hX hs HL3.out)
        have HBYT := Lib.hid (tE_byt HYB.out k)
        have htl : (tE l k).length = (tB l k).length + 1 := tE_len l k
        have hlow := hln.1
        have HTE : Hid (tE l k = tB l k ++ [93]) := Lib.hid rfl
        have HTL := Lib.hid htl
        clear htl
        generalize sB l k = p at *
        generalize tE l k = te at *
        generalize tB l k = tb at *
        obtain ⟨m, hm⟩ : ∃ m, m = tb.length := ⟨_, rfl⟩
        rw [← hm] at hv5 HOA hln hlow HXT HTL
        clear HI hm HBX HROW
        subst hv5
        have hm0 : ((m : Int) == 0) = false := by simp; omega
        have HWM : Hid (IntKind.i64.wrap ((m : Int) + 1) = (m : Int) + 1) := Lib.hid (by rw [IntKind.wrap_i64]; omega)
        unfold SV at HXT
        go_wp2_with (at_builtin; refine app_lit rfl (.tmp 65) (.tmp 66) rfl w.heap.size _ _ _ rfl (HOA.out _) _ 1 1 [93] rfl rfl (news1 _ _ _) (by omega) (HBA.out _).size ?_)
        intro v4 w4 hown4 hb4 hk4
        have HB4 := Lib.hid ((HBA.out _).trans hb4)
        have HX4 := Lib.hid ((hk4 w.heap.size (by first | omega | (simp only [World.size_alloc]; omega) | (simp; omega)) HNE.out).2.trans (HXA.out _))
        have HS4 : Hid (Sl w4 v4 te) := Lib.hid (by
          have h := slOwnedM (L := te) (by rw [HTE.out, List.map_append]; exact hown4) HBYT.out (by rw [HTL.out]; omega)
          exact h)
        have HBK := Lib.hid (HXT.out w4 v4 HB4.out HS4.out)
        clear hown4 hb4 hk4
        go_wp2_with fail
        refine HBK.out.out.mono ?_
        rintro y w5 ⟨rfl, hb5⟩
        have HB5 := Lib.hid (below_thn HB4.out (Nat.le_refl _) hb5)
        have HX5 := Lib.hid (blk_below HX4.out hb5)
        clear hb5
        have EQ := Lib.hid (eq_yesM p p (fun _ _ => rfl))
        have HTXT : ∀ X, Below w.heap.size w X → Hid (Calls Tryd.prog 11 #[.agg #[.int .u64 (sw p 0 : Nat), .int .u64 (sw p 1 : Nat), .int .u64 (sw p 2 : Nat), .int .u64 (sw p 3 : Nat)]] X fun e w' => e = .returned (.string (textS p)) ∧ Below X.heap.size X w') := fun X hX => HXH.out p X hX
        have HTXH := Lib.hid HTXT
        clear HTXT
        generalize textS p = ts at *
        have HS0 : Hid (Below w.heap.size w (w5.alloc (.cells #[.int .u64 (sw p 0 : Nat), .int .u64 (sw p 1 : Nat), .int .u64 (sw p 2 : Nat), .int .u64 (sw p 3 : Nat)] 24)) ∧ (w5.alloc (.cells #[.int .u64 (sw p 0 : Nat), .int .u64 (sw p 1 : Nat), .int .u64 (sw p 2 : Nat), .int .u64 (sw p 3 : Nat)] 24)).heap[w.heap.size]? = some (.cells #[.int .u64 (sw p 0 : Nat), .int .u64 (sw p 1 : Nat), .int .u64 (sw p 2 : Nat), .int .u64 (sw p 3 : Nat)] 24 (0, 0)) ∧ (w5.alloc (.cells #[.int .u64 (sw p 0 : Nat), .int .u64 (sw p 1 : Nat), .int .u64 (sw p 2 : Nat), .int .u64 (sw p 3 : Nat)] 24)).heap[w5.heap.size]? = some (.cells #[.int .u64 (sw p 0 : Nat), .int .u64 (sw p 1 : Nat), .int .u64 (sw p 2 : Nat), .int .u64 (sw p 3 : Nat)] 24 (0, 0))) := Lib.hid ⟨HB5.out.alloc HB5.out.size _, blk_alloc HX5.out _, alloc_last w5 _⟩
        go_wp2_with fail
        refine Reg.wp_region_vals (fun X => Below w.heap.size w X ∧ X.heap[w.heap.size]? = some (.cells #[.int .u64 (sw p 0 : Nat), .int .u64 (sw p 1 : Nat), .int .u64 (sw p 2 : Nat), .int .u64 (sw p 3 : Nat)] 24 (0, 0)) ∧ X.heap[w5.heap.size]? = some (.cells #[.int .u64 (sw p 0 : Nat), .int .u64 (sw p 1 : Nat), .int .u64 (sw p 2 : Nat), .int .u64 (sw p 3 : Nat)] 24 (0, 0))) (fun j => ([some (.nilIface), some (.bool true), some (.bool true), some (.agg #[.int .u64 (sw p 0 : Nat), .int .u64 (sw p 1 : Nat), .int .u64 (sw p 2 : Nat), .int .u64 (sw p 3 : Nat)]), some (.agg #[.int .u64 (sw p 0 : Nat), .int .u64 (sw p 1 : Nat), .int .u64 (sw p 2 : Nat), .int .u64 (sw p 3 : Nat)]), some (.bool true), some (.bool true), some (.bool true), some (.int .i64 ((m : Int) + 1)), some (.slice a5 m cap5), some (.int .i64 (m : Nat)), some (.int .i64 ((m : Int) + 1)), some (.bool true), some (.bool true), some (.bool true), some (.agg #[.int .u64 (sw p 0 : Nat), .int .u64 (sw p 1 : Nat), .int .u64 (sw p 2 : Nat), .int .u64 (sw p 3 : Nat)]), some (.string ts), some (.agg #[.int .u64 (sw p 0 : Nat), .int .u64 (sw p 1 : Nat), .int .u64 (sw p 2 : Nat), .int .u64 (sw p 3 : Nat)]), some (.string ts), some (.bool true), some (.bool true), some (.bool true), some (.bool true), some (.bool true), some (.bool true)] : List (Option Value)).getD j none) (fun _ _ _ => True) (by kernel_rfl) (by kernel_rfl) (by kernel_rfl) (by kernel_rfl) ?rs0 ?rsE ?rsZ
        case rs0 => exact ⟨HS0.out.1.drew, HS0.out.2.1, HS0.out.2.2⟩
        case rsE =>
          refine Reg.EachV.plain rfl (fun T X hS hk K hK => ?_) ?_
          · skip
            have g12 : T[12]? = some (.nilIface) := hk.old 12 (by kernel_rfl) rfl
            have hK := hK _ X hS (Reg.Is.of_val rfl) (fun _ _ _ h => h)
            clear hk
            go_simp
            exact hK
          refine Reg.EachV.plain rfl (fun T X hS hk K hK => ?_) ?_
          · skip
            have g73 : T[73]? = some (.nilIface) := hk.val 0 73 (by kernel_rfl) (by kernel_rfl) rfl
            have hK := hK _ X hS (Reg.Is.of_val rfl) (fun _ _ _ h => h)
            clear hk
            go_simp
            exact hK
          refine Reg.EachV.plain rfl (fun T X hS hk K hK => ?_) ?_
          · skip
            have g74 : T[74]? = some (.bool true) := hk.val 1 74 (by kernel_rfl) (by kernel_rfl) rfl
            have hK := hK _ X hS (Reg.Is.of_val rfl) (fun _ _ _ h => h)
            clear hk
            go_simp
            exact hK
          refine Reg.EachV.guarded 2 75 true rfl (by kernel_rfl) (by kernel_rfl) rfl (fun T X hS hk K hK => ?_) ?_
          · skip
            have g10 : T[10]? = some (.pointer (some ⟨w5.heap.size, 0, none⟩)) := hk.old 10 (by kernel_rfl) rfl
            obtain ⟨⟨y0, y1, y2, y3⟩, _, hbz⟩ := cells4 hS.2.2
            have hK := hK _ X hS (Reg.Is.of_val rfl) (fun _ _ _ h => h)
            clear hk
            go_simp
            exact hK
          refine Reg.EachV.guarded 2 75 true rfl (by kernel_rfl) (by kernel_rfl) rfl (fun T X hS hk K hK => ?_) ?_
          · skip
            have g6 : T[6]? = some (.pointer (some ⟨w.heap.size, 0, none⟩)) := hk.old 6 (by kernel_rfl) rfl
            obtain ⟨⟨y0, y1, y2, y3⟩, _, hbz⟩ := cells4 hS.2.1
            have hK := hK _ X hS (Reg.Is.of_val rfl) (fun _ _ _ h => h)
            clear hk
            go_simp
            exact hK
          refine Reg.EachV.guarded 2 75 true rfl (by kernel_rfl) (by kernel_rfl) rfl (fun T X hS hk K hK => ?_) ?_
          · skip
            have g76 : T[76]? = some (.agg #[.int .u64 (sw p 0 : Nat), .int .u64 (sw p 1 : Nat), .int .u64 (sw p 2 : Nat), .int .u64 (sw p 3 : Nat)]) := hk.val 3 76 (by kernel_rfl) (by kernel_rfl) rfl
            have g77 : T[77]? = some (.agg #[.int .u64 (sw p 0 : Nat), .int .u64 (sw p 1 : Nat), .int .u64 (sw p 2 : Nat), .int .u64 (sw p 3 : Nat)]) := hk.val 4 77 (by kernel_rfl) (by kernel_rfl) rfl
            have q1 := EQ.out
            have hK := hK _ X hS (Reg.Is.of_val rfl) (fun _ _ _ h => h)
            clear hk
            go_simp
            exact hK
          refine Reg.EachV.plain rfl (fun T X hS hk K hK => ?_) ?_
          · skip
            have g75 : T[75]? = some (.bool true) := hk.val 2 75 (by kernel_rfl) (by kernel_rfl) rfl
            have g78 : T[78]? = some (.bool true) := hk.val 5 78 (by kernel_rfl) (by kernel_rfl) rfl
            have hK := hK _ X hS (Reg.Is.of_val rfl) (fun _ _ _ h => h)
            clear hk
            go_simp
            exact hK
          refine Reg.EachV.plain rfl (fun T X hS hk K hK => ?_) ?_
          · skip
            have g79 : T[79]? = some (.bool true) := hk.val 6 79 (by kernel_rfl) (by kernel_rfl) rfl
            have hK := hK _ X hS (Reg.Is.of_val rfl) (fun _ _ _ h => h)
            clear hk
            go_simp
            exact hK
          refine Reg.EachV.guarded 7 80 true rfl (by kernel_rfl) (by kernel_rfl) rfl (fun T X hS hk K hK => ?_) ?_
          · skip
            have g11 : T[11]? = some (.int .i64 ((m : Int) + 1)) := hk.old 11 (by kernel_rfl) rfl
            have hK := hK _ X hS (Reg.Is.of_val rfl) (fun _ _ _ h => h)
            clear hk
            go_simp
            exact hK
          refine Reg.EachV.guarded 7 80 true rfl (by kernel_rfl) (by kernel_rfl) rfl (fun T X hS hk K hK => ?_) ?_
          · skip
            have g5 : T[5]? = some (.slice a5 m cap5) := hk.old 5 (by kernel_rfl) rfl
            have hK := hK _ X hS (Reg.Is.of_val rfl) (fun _ _ _ h => h)
            clear hk
            go_simp
            exact hK
          refine Reg.EachV.guarded 7 80 true rfl (by kernel_rfl) (by kernel_rfl) rfl (fun T X hS hk K hK => ?_) ?_
          · skip
            have g82 : T[82]? = some (.slice a5 m cap5) := hk.val 9 82 (by kernel_rfl) (by kernel_rfl) rfl
            have hK := hK _ X hS (Reg.Is.of_val rfl) (fun _ _ _ h => h)
            clear hk
            go_simp
            exact hK
          refine Reg.EachV.guarded 7 80 true rfl (by kernel_rfl) (by kernel_rfl) rfl (fun T X hS hk K hK => ?_) ?_
          · skip
            have g83 : T[83]? = some (.int .i64 (m : Nat)) := hk.val 10 83 (by kernel_rfl) (by kernel_rfl) rfl
            have hwm := HWM.out
            have hK := hK _ X hS (Reg.Is.of_val rfl) (fun _ _ _ h => h)
            clear hk
            go_simp
            exact hK
          refine Reg.EachV.guarded 7 80 true rfl (by kernel_rfl) (by kernel_rfl) rfl (fun T X hS hk K hK => ?_) ?_
          · skip
            have g81 : T[81]? = some (.int .i64 ((m : Int) + 1)) := hk.val 8 81 (by kernel_rfl) (by kernel_rfl) rfl
            have g84 : T[84]? = some (.int .i64 ((m : Int) + 1)) := hk.val 11 84 (by kernel_rfl) (by kernel_rfl) rfl
            have hK := hK _ X hS (Reg.Is.of_val rfl) (fun _ _ _ h => h)
            clear hk
            go_simp
            exact hK
          refine Reg.EachV.plain rfl (fun T X hS hk K hK => ?_) ?_
          · skip
            have g80 : T[80]? = some (.bool true) := hk.val 7 80 (by kernel_rfl) (by kernel_rfl) rfl
            have g85 : T[85]? = some (.bool true) := hk.val 12 85 (by kernel_rfl) (by kernel_rfl) rfl
            have hK := hK _ X hS (Reg.Is.of_val rfl) (fun _ _ _ h => h)
            clear hk
            go_simp
            exact hK
          refine Reg.EachV.plain rfl (fun T X hS hk K hK => ?_) ?_
          · skip
            have g86 : T[86]? = some (.bool true) := hk.val 13 86 (by kernel_rfl) (by kernel_rfl) rfl
            have hK := hK _ X hS (Reg.Is.of_val rfl) (fun _ _ _ h => h)
            clear hk
            go_simp
            exact hK
          refine Reg.EachV.guarded 14 87 true rfl (by kernel_rfl) (by kernel_rfl) rfl (fun T X hS hk K hK => ?_) ?_
          · skip
            have g10 : T[10]? = some (.pointer (some ⟨w5.heap.size, 0, none⟩)) := hk.old 10 (by kernel_rfl) rfl
            obtain ⟨⟨y0, y1, y2, y3⟩, _, hbz⟩ := cells4 hS.2.2
            have hK := hK _ X hS (Reg.Is.of_val rfl) (fun _ _ _ h => h)
            clear hk
            go_simp
            exact hK
          refine Reg.EachV.guarded 14 87 true rfl (by kernel_rfl) (by kernel_rfl) rfl (fun T X hS hk K hK => ?_) ?_
          · skip
            have g88 : T[88]? = some (.agg #[.int .u64 (sw p 0 : Nat), .int .u64 (sw p 1 : Nat), .int .u64 (sw p 2 : Nat), .int .u64 (sw p 3 : Nat)]) := hk.val 15 88 (by kernel_rfl) (by kernel_rfl) rfl
            clear hk
            go_simp
            refine ((HTXH.out _ hS.1).out).mono ?_
            rintro e w1 ⟨rfl, hb⟩
            exact hK _ _ (⟨below_thn hS.1 (Nat.le_refl _) hb, blk_below hS.2.1 hb, blk_below hS.2.2 hb⟩) (Reg.Is.of_val rfl) (fun _ _ _ h => h)
          refine Reg.EachV.guarded 14 87 true rfl (by kernel_rfl) (by kernel_rfl) rfl (fun T X hS hk K hK => ?_) ?_
          · skip
            have g6 : T[6]? = some (.pointer (some ⟨w.heap.size, 0, none⟩)) := hk.old 6 (by kernel_rfl) rfl
            obtain ⟨⟨y0, y1, y2, y3⟩, _, hbz⟩ := cells4 hS.2.1
            have hK := hK _ X hS (Reg.Is.of_val rfl) (fun _ _ _ h => h)
            clear hk
            go_simp
            exact hK
          refine Reg.EachV.guarded 14 87 true rfl (by kernel_rfl) (by kernel_rfl) rfl (fun T X hS hk K hK => ?_) ?_
          · skip
            have g90 : T[90]? = some (.agg #[.int .u64 (sw p 0 : Nat), .int .u64 (sw p 1 : Nat), .int .u64 (sw p 2 : Nat), .int .u64 (sw p 3 : Nat)]) := hk.val 17 90 (by kernel_rfl) (by kernel_rfl) rfl
            clear hk
            go_simp
            refine ((HTXH.out _ hS.1).out).mono ?_
            rintro e w1 ⟨rfl, hb⟩
            exact hK _ _ (⟨below_thn hS.1 (Nat.le_refl _) hb, blk_below hS.2.1 hb, blk_below hS.2.2 hb⟩) (Reg.Is.of_val rfl) (fun _ _ _ h => h)
          refine Reg.EachV.guarded 14 87 true rfl (by kernel_rfl) (by kernel_rfl) rfl (fun T X hS hk K hK => ?_) ?_
          · skip
            have g89 : T[89]? = some (.string ts) := hk.val 16 89 (by kernel_rfl) (by kernel_rfl) rfl
            have g91 : T[91]? = some (.string ts) := hk.val 18 91 (by kernel_rfl) (by kernel_rfl) rfl
            have hK := hK _ X hS (Reg.Is.of_val rfl) (fun _ _ _ h => h)
            clear hk
            go_simp
            exact hK
          refine Reg.EachV.plain rfl (fun T X hS hk K hK => ?_) ?_
          · skip
            have g87 : T[87]? = some (.bool true) := hk.val 14 87 (by kernel_rfl) (by kernel_rfl) rfl
            have g92 : T[92]? = some (.bool true) := hk.val 19 92 (by kernel_rfl) (by kernel_rfl) rfl
            have hK := hK _ X hS (Reg.Is.of_val rfl) (fun _ _ _ h => h)
            clear hk
            go_simp
            exact hK
          refine Reg.EachV.plain rfl (fun T X hS hk K hK => ?_) ?_
          · skip
            have g93 : T[93]? = some (.bool true) := hk.val 20 93 (by kernel_rfl) (by kernel_rfl) rfl
            have hK := hK _ X hS (Reg.Is.of_val rfl) (fun _ _ _ h => h)
            clear hk
            go_simp
            exact hK
          refine Reg.EachV.guarded 21 94 true rfl (by kernel_rfl) (by kernel_rfl) rfl (fun T X hS hk K hK => ?_) ?_
          · skip
            clear hk
            go_simp
            refine ((HA _).out).mono ?_
            rintro e w1 ⟨rfl, hb⟩
            exact hK _ _ (⟨below_thn hS.1 (Nat.le_refl _) hb, blk_below hS.2.1 hb, blk_below hS.2.2 hb⟩) (Reg.Is.of_val rfl) (fun _ _ _ h => h)
          refine Reg.EachV.plain rfl (fun T X hS hk K hK => ?_) ?_
          · skip
            have g94 : T[94]? = some (.bool true) := hk.val 21 94 (by kernel_rfl) (by kernel_rfl) rfl
            have g95 : T[95]? = some (.bool true) := hk.val 22 95 (by kernel_rfl) (by kernel_rfl) rfl
            have hK := hK _ X hS (Reg.Is.of_val rfl) (fun _ _ _ h => h)
            clear hk
            go_simp
            exact hK
          refine Reg.EachV.plain rfl (fun T X hS hk K hK => ?_) ?_
          · skip
            have g96 : T[96]? = some (.bool true) := hk.val 23 96 (by kernel_rfl) (by kernel_rfl) rfl
            have hK := hK _ X hS (Reg.Is.of_val rfl) (fun _ _ _ h => h)
            clear hk
            go_simp
            exact hK
          exact Reg.EachV.nil
        case rsZ =>
          intro u w1 hS hI
          have e0 : u 0 = .nilIface := (hI 0 (by decide)).val rfl
          have e1 : u 1 = .bool true := (hI 1 (by decide)).val rfl
          have e2 : u 2 = .bool true := (hI 2 (by decide)).val rfl
          have e3 : u 3 = .agg #[.int .u64 (sw p 0 : Nat), .int .u64 (sw p 1 : Nat), .int .u64 (sw p 2 : Nat), .int .u64 (sw p 3 : Nat)] := (hI 3 (by decide)).val rfl
          have e4 : u 4 = .agg #[.int .u64 (sw p 0 : Nat), .int .u64 (sw p 1 : Nat), .int .u64 (sw p 2 : Nat), .int .u64 (sw p 3 : Nat)] := (hI 4 (by decide)).val rfl
          have e5 : u 5 = .bool true := (hI 5 (by decide)).val rfl
          have e6 : u 6 = .bool true := (hI 6 (by decide)).val rfl
          have e7 : u 7 = .bool true := (hI 7 (by decide)).val rfl
          have e8 : u 8 = .int .i64 ((m : Int) + 1) := (hI 8 (by decide)).val rfl
          have e9 : u 9 = .slice a5 m cap5 := (hI 9 (by decide)).val rfl
          have e10 : u 10 = .int .i64 (m : Nat) := (hI 10 (by decide)).val rfl
          have e11 : u 11 = .int .i64 ((m : Int) + 1) := (hI 11 (by decide)).val rfl
          have e12 : u 12 = .bool true := (hI 12 (by decide)).val rfl
          have e13 : u 13 = .bool true := (hI 13 (by decide)).val rfl
          have e14 : u 14 = .bool true := (hI 14 (by decide)).val rfl
          have e15 : u 15 = .agg #[.int .u64 (sw p 0 : Nat), .int .u64 (sw p 1 : Nat), .int .u64 (sw p 2 : Nat), .int .u64 (sw p 3 : Nat)] := (hI 15 (by decide)).val rfl
          have e16 : u 16 = .string ts := (hI 16 (by decide)).val rfl
          have e17 : u 17 = .agg #[.int .u64 (sw p 0 : Nat), .int .u64 (sw p 1 : Nat), .int .u64 (sw p 2 : Nat), .int .u64 (sw p 3 : Nat)] := (hI 17 (by decide)).val rfl
          have e18 : u 18 = .string ts := (hI 18 (by decide)).val rfl
          have e19 : u 19 = .bool true := (hI 19 (by decide)).val rfl
          have e20 : u 20 = .bool true := (hI 20 (by decide)).val rfl
          have e21 : u 21 = .bool true := (hI 21 (by decide)).val rfl
          have e22 : u 22 = .bool true := (hI 22 (by decide)).val rfl
          have e23 : u 23 = .bool true := (hI 23 (by decide)).val rfl
          have e24 : u 24 = .bool true := (hI 24 (by decide)).val rfl
          clear hI
          simp only [Reg.putAll, Act.put, List.setIfInBounds_toArray, List.set_cons_succ, List.set_cons_zero, Nat.zero_add, Nat.reduceAdd, e0, e1, e2, e3, e4, e5, e6, e7, e8, e9, e10, e11, e12, e13, e14, e15, e16, e17, e18, e19, e20, e21, e22, e23, e24]
          clear e0 e1 e2 e3 e4 e5 e6 e7 e8 e9 e10 e11 e12 e13 e14 e15 e16 e17 e18 e19 e20 e21 e22 e23 e24
          have HE := Lib.hid hS.1
          clear hS
          go_wp2
          go_ret
          exact ⟨rfl, HE.out⟩
    · have hkI : ¬ (k : Int) < (n : Int) := by omega
      by_cases hk0 : 0 < k
      · skip
        obtain ⟨a5, cap5, hv5⟩ := own_shapeK HI.out.own
        have HBWZ := Lib.hid HI.out.bel
        have HXT : Hid (∀ X v, Below w.heap.size w X → Sl X v (tE l k) → Hid (Calls Tryd.prog 14 #[v, .int .i64 0, .int .i64 lg] X fun x w' => x = .returned (.tuple #[SV (sB l k), .int .i64 (((tB l k).length : Int) + 1), .nilIface]) ∧ Below X.heap.size X w')) := Lib.hid (fun X v hX hs => HBRH.out X v k lg hk0 hk40 hX hs HL3.out)
        have HBYT := Lib.hid (tE_byt HYB.out k)
        have htl : (tE l k).length = (tB l k).length + 1 := tE_len l k
        have hlow := hln.1
        have HTE : Hid (tE l k = tB l k ++ [93]) := Lib.hid rfl
        have HTL := Lib.hid htl
        clear htl
        generalize sB l k = p at *
        generalize tE l k = te at *
        generalize tB l k = tb at *
        obtain ⟨m, hm⟩ : ∃ m, m = tb.length := ⟨_, rfl⟩
        rw [← hm] at hv5 HOA hln hlow HXT HTL
        clear HI hm HBX HROW
        subst hv5
        have hm0 : ((m : Int) == 0) = false := by simp; omega
        have HWM : Hid (IntKind.i64.wrap ((m : Int) + 1) = (m : Int) + 1) := Lib.hid (by rw [IntKind.wrap_i64]; omega)
        unfold SV at HXT
        go_wp2_with (at_builtin; refine app_lit rfl (.tmp 65) (.tmp 66) rfl w.heap.size _ _ _ rfl (HOA.out _) _ 1 1 [93] rfl rfl (news1 _ _ _) (by omega) (HBA.out _).size ?_)
        intro v4 w4 hown4 hb4 hk4
        have HB4 := Lib.hid ((HBA.out _).trans hb4)
        have HX4 := Lib.hid ((hk4 w.heap.size (by first | omega | (simp only [World.size_alloc]; omega) | (simp; omega)) HNE.out).2.trans (HXA.out _))
        have HS4 : Hid (Sl w4 v4 te) := Lib.hid (by
          have h := slOwnedM (L := te) (by rw [HTE.out, List.map_append]; exact hown4) HBYT.out (by rw [HTL.out]; omega)
          exact h)
        have HBK := Lib.hid (HXT.out w4 v4 HB4.out HS4.out)
        clear hown4 hb4 hk4
        go_wp2_with fail
        refine HBK.out.out.mono ?_
        rintro y w5 ⟨rfl, hb5⟩
        have HB5 := Lib.hid (below_thn HB4.out (Nat.le_refl _) hb5)
        have HX5 := Lib.hid (blk_below HX4.out hb5)
        clear hb5
        have EQ := Lib.hid (eq_yesM p p (fun _ _ => rfl))
        have HTXT : ∀ X, Below w.heap.size w X → Hid (Calls Tryd.prog 11 #[.agg #[.int .u64 (sw p 0 : Nat), .int .u64 (sw p 1 : Nat), .int .u64 (sw p 2 : Nat), .int .u64 (sw p 3 : Nat)]] X fun e w' => e = .returned (.string (textS p)) ∧ Below X.heap.size X w') := fun X hX => HXH.out p X hX
        have HTXH := Lib.hid HTXT
        clear HTXT
        generalize textS p = ts at *
        have HS0 : Hid (Below w.heap.size w (w5.alloc (.cells #[.int .u64 (sw p 0 : Nat), .int .u64 (sw p 1 : Nat), .int .u64 (sw p 2 : Nat), .int .u64 (sw p 3 : Nat)] 24)) ∧ (w5.alloc (.cells #[.int .u64 (sw p 0 : Nat), .int .u64 (sw p 1 : Nat), .int .u64 (sw p 2 : Nat), .int .u64 (sw p 3 : Nat)] 24)).heap[w.heap.size]? = some (.cells #[.int .u64 (sw p 0 : Nat), .int .u64 (sw p 1 : Nat), .int .u64 (sw p 2 : Nat), .int .u64 (sw p 3 : Nat)] 24 (0, 0)) ∧ (w5.alloc (.cells #[.int .u64 (sw p 0 : Nat), .int .u64 (sw p 1 : Nat), .int .u64 (sw p 2 : Nat), .int .u64 (sw p 3 : Nat)] 24)).heap[w5.heap.size]? = some (.cells #[.int .u64 (sw p 0 : Nat), .int .u64 (sw p 1 : Nat), .int .u64 (sw p 2 : Nat), .int .u64 (sw p 3 : Nat)] 24 (0, 0))) := Lib.hid ⟨HB5.out.alloc HB5.out.size _, blk_alloc HX5.out _, alloc_last w5 _⟩
        go_wp2_with fail
        refine Reg.wp_region_vals (fun X => Below w.heap.size w X ∧ X.heap[w.heap.size]? = some (.cells #[.int .u64 (sw p 0 : Nat), .int .u64 (sw p 1 : Nat), .int .u64 (sw p 2 : Nat), .int .u64 (sw p 3 : Nat)] 24 (0, 0)) ∧ X.heap[w5.heap.size]? = some (.cells #[.int .u64 (sw p 0 : Nat), .int .u64 (sw p 1 : Nat), .int .u64 (sw p 2 : Nat), .int .u64 (sw p 3 : Nat)] 24 (0, 0))) (fun j => ([some (.nilIface), some (.bool true), some (.bool true), some (.agg #[.int .u64 (sw p 0 : Nat), .int .u64 (sw p 1 : Nat), .int .u64 (sw p 2 : Nat), .int .u64 (sw p 3 : Nat)]), some (.agg #[.int .u64 (sw p 0 : Nat), .int .u64 (sw p 1 : Nat), .int .u64 (sw p 2 : Nat), .int .u64 (sw p 3 : Nat)]), some (.bool true), some (.bool true), some (.bool true), some (.int .i64 ((m : Int) + 1)), some (.slice a5 m cap5), some (.int .i64 (m : Nat)), some (.int .i64 ((m : Int) + 1)), some (.bool true), some (.bool true), some (.bool true), some (.agg #[.int .u64 (sw p 0 : Nat), .int .u64 (sw p 1 : Nat), .int .u64 (sw p 2 : Nat), .int .u64 (sw p 3 : Nat)]), some (.string ts), some (.agg #[.int .u64 (sw p 0 : Nat), .int .u64 (sw p 1 : Nat), .int .u64 (sw p 2 : Nat), .int .u64 (sw p 3 : Nat)]), some (.string ts), some (.bool true), some (.bool true), some (.bool true), some (.bool true), some (.bool true), some (.bool true)] : List (Option Value)).getD j none) (fun _ _ _ => True) (by kernel_rfl) (by kernel_rfl) (by kernel_rfl) (by kernel_rfl) ?rs0 ?rsE ?rsZ
        case rs0 => exact ⟨HS0.out.1.drew, HS0.out.2.1, HS0.out.2.2⟩
        case rsE =>
          refine Reg.EachV.plain rfl (fun T X hS hk K hK => ?_) ?_
          · skip
            have g12 : T[12]? = some (.nilIface) := hk.old 12 (by kernel_rfl) rfl
            have hK := hK _ X hS (Reg.Is.of_val rfl) (fun _ _ _ h => h)
            clear hk
            go_simp
            exact hK
          refine Reg.EachV.plain rfl (fun T X hS hk K hK => ?_) ?_
          · skip
            have g73 : T[73]? = some (.nilIface) := hk.val 0 73 (by kernel_rfl) (by kernel_rfl) rfl
            have hK := hK _ X hS (Reg.Is.of_val rfl) (fun _ _ _ h => h)
            clear hk
            go_simp
            exact hK
          refine Reg.EachV.plain rfl (fun T X hS hk K hK => ?_) ?_
          · skip
            have g74 : T[74]? = some (.bool true) := hk.val 1 74 (by kernel_rfl) (by kernel_rfl) rfl
            have hK := hK _ X hS (Reg.Is.of_val rfl) (fun _ _ _ h => h)
            clear hk
            go_simp
            exact hK
          refine Reg.EachV.guarded 2 75 true rfl (by kernel_rfl) (by kernel_rfl) rfl (fun T X hS hk K hK => ?_) ?_
          · skip
            have g10 : T[10]? = some (.pointer (some ⟨w5.heap.size, 0, none⟩)) := hk.old 10 (by kernel_rfl) rfl
            obtain ⟨⟨y0, y1, y2, y3⟩, _, hbz⟩ := cells4 hS.2.2
            have hK := hK _ X hS (Reg.Is.of_val rfl) (fun _ _ _ h => h)
            clear hk
            go_simp
            exact hK
          refine Reg.EachV.guarded 2 75 true rfl (by kernel_rfl) (by kernel_rfl) rfl (fun T X hS hk K hK => ?_) ?_
          · skip
            have g6 : T[6]? = some (.pointer (some ⟨w.heap.size, 0, none⟩)) := hk.old 6 (by kernel_rfl) rfl
            obtain ⟨⟨y0, y1, y2, y3⟩, _, hbz⟩ := cells4 hS.2.1
            have hK := hK _ X hS (Reg.Is.of_val rfl) (fun _ _ _ h => h)
            clear hk
            go_simp
            exact hK
          refine Reg.EachV.guarded 2 75 true rfl (by kernel_rfl) (by kernel_rfl) rfl (fun T X hS hk K hK => ?_) ?_
          · skip
            have g76 : T[76]? = some (.agg #[.int .u64 (sw p 0 : Nat), .int .u64 (sw p 1 : Nat), .int .u64 (sw p 2 : Nat), .int .u64 (sw p 3 : Nat)]) := hk.val 3 76 (by kernel_rfl) (by kernel_rfl) rfl
            have g77 : T[77]? = some (.agg #[.int .u64 (sw p 0 : Nat), .int .u64 (sw p 1 : Nat), .int .u64 (sw p 2 : Nat), .int .u64 (sw p 3 : Nat)]) := hk.val 4 77 (by kernel_rfl) (by kernel_rfl) rfl
            have q1 := EQ.out
            have hK := hK _ X hS (Reg.Is.of_val rfl) (fun _ _ _ h => h)
            clear hk
            go_simp
            exact hK
          refine Reg.EachV.plain rfl (fun T X hS hk K hK => ?_) ?_
          · skip
            have g75 : T[75]? = some (.bool true) := hk.val 2 75 (by kernel_rfl) (by kernel_rfl) rfl
            have g78 : T[78]? = some (.bool true) := hk.val 5 78 (by kernel_rfl) (by kernel_rfl) rfl
            have hK := hK _ X hS (Reg.Is.of_val rfl) (fun _ _ _ h => h)
            clear hk
            go_simp
            exact hK
          refine Reg.EachV.plain rfl (fun T X hS hk K hK => ?_) ?_
          · skip
            have g79 : T[79]? = some (.bool true) := hk.val 6 79 (by kernel_rfl) (by kernel_rfl) rfl
            have hK := hK _ X hS (Reg.Is.of_val rfl) (fun _ _ _ h => h)
            clear hk
            go_simp
            exact hK
          refine Reg.EachV.guarded 7 80 true rfl (by kernel_rfl) (by kernel_rfl) rfl (fun T X hS hk K hK => ?_) ?_
          · skip
            have g11 : T[11]? = some (.int .i64 ((m : Int) + 1)) := hk.old 11 (by kernel_rfl) rfl
            have hK := hK _ X hS (Reg.Is.of_val rfl) (fun _ _ _ h => h)
            clear hk
            go_simp
            exact hK
          refine Reg.EachV.guarded 7 80 true rfl (by kernel_rfl) (by kernel_rfl) rfl (fun T X hS hk K hK => ?_) ?_
          · skip
            have g5 : T[5]? = some (.slice a5 m cap5) := hk.old 5 (by kernel_rfl) rfl
            have hK := hK _ X hS (Reg.Is.of_val rfl) (fun _ _ _ h => h)
            clear hk
            go_simp
            exact hK
          refine Reg.EachV.guarded 7 80 true rfl (by kernel_rfl) (by kernel_rfl) rfl (fun T X hS hk K hK => ?_) ?_
          · skip
            have g82 : T[82]? = some (.slice a5 m cap5) := hk.val 9 82 (by kernel_rfl) (by kernel_rfl) rfl
            have hK := hK _ X hS (Reg.Is.of_val rfl) (fun _ _ _ h => h)
            clear hk
            go_simp
            exact hK
          refine Reg.EachV.guarded 7 80 true rfl (by kernel_rfl) (by kernel_rfl) rfl (fun T X hS hk K hK => ?_) ?_
          · skip
            have g83 : T[83]? = some (.int .i64 (m : Nat)) := hk.val 10 83 (by kernel_rfl) (by kernel_rfl) rfl
            have hwm := HWM.out
            have hK := hK _ X hS (Reg.Is.of_val rfl) (fun _ _ _ h => h)
            clear hk
            go_simp
            exact hK
          refine Reg.EachV.guarded 7 80 true rfl (by kernel_rfl) (by kernel_rfl) rfl (fun T X hS hk K hK => ?_) ?_
          · skip
            have g81 : T[81]? = some (.int .i64 ((m : Int) + 1)) := hk.val 8 81 (by kernel_rfl) (by kernel_rfl) rfl
            have g84 : T[84]? = some (.int .i64 ((m : Int) + 1)) := hk.val 11 84 (by kernel_rfl) (by kernel_rfl) rfl
            have hK := hK _ X hS (Reg.Is.of_val rfl) (fun _ _ _ h => h)
            clear hk
            go_simp
            exact hK
          refine Reg.EachV.plain rfl (fun T X hS hk K hK => ?_) ?_
          · skip
            have g80 : T[80]? = some (.bool true) := hk.val 7 80 (by kernel_rfl) (by kernel_rfl) rfl
            have g85 : T[85]? = some (.bool true) := hk.val 12 85 (by kernel_rfl) (by kernel_rfl) rfl
            have hK := hK _ X hS (Reg.Is.of_val rfl) (fun _ _ _ h => h)
            clear hk
            go_simp
            exact hK
          refine Reg.EachV.plain rfl (fun T X hS hk K hK => ?_) ?_
          · skip
            have g86 : T[86]? = some (.bool true) := hk.val 13 86 (by kernel_rfl) (by kernel_rfl) rfl
            have hK := hK _ X hS (Reg.Is.of_val rfl) (fun _ _ _ h => h)
            clear hk
            go_simp
            exact hK
          refine Reg.EachV.guarded 14 87 true rfl (by kernel_rfl) (by kernel_rfl) rfl (fun T X hS hk K hK => ?_) ?_
          · skip
            have g10 : T[10]? = some (.pointer (some ⟨w5.heap.size, 0, none⟩)) := hk.old 10 (by kernel_rfl) rfl
            obtain ⟨⟨y0, y1, y2, y3⟩, _, hbz⟩ := cells4 hS.2.2
            have hK := hK _ X hS (Reg.Is.of_val rfl) (fun _ _ _ h => h)
            clear hk
            go_simp
            exact hK
          refine Reg.EachV.guarded 14 87 true rfl (by kernel_rfl) (by kernel_rfl) rfl (fun T X hS hk K hK => ?_) ?_
          · skip
            have g88 : T[88]? = some (.agg #[.int .u64 (sw p 0 : Nat), .int .u64 (sw p 1 : Nat), .int .u64 (sw p 2 : Nat), .int .u64 (sw p 3 : Nat)]) := hk.val 15 88 (by kernel_rfl) (by kernel_rfl) rfl
            clear hk
            go_simp
            refine ((HTXH.out _ hS.1).out).mono ?_
            rintro e w1 ⟨rfl, hb⟩
            exact hK _ _ (⟨below_thn hS.1 (Nat.le_refl _) hb, blk_below hS.2.1 hb, blk_below hS.2.2 hb⟩) (Reg.Is.of_val rfl) (fun _ _ _ h => h)
          refine Reg.EachV.guarded 14 87 true rfl (by kernel_rfl) (by kernel_rfl) rfl (fun T X hS hk K hK => ?_) ?_
          · skip
            have g6 : T[6]? = some (.pointer (some ⟨w.heap.size, 0, none⟩)) := hk.old 6 (by kernel_rfl) rfl
            obtain ⟨⟨y0, y1, y2, y3⟩, _, hbz⟩ := cells4 hS.2.1
            have hK := hK _ X hS (Reg.Is.of_val rfl) (fun _ _ _ h => h)
            clear hk
            go_simp
            exact hK
          refine Reg.EachV.guarded 14 87 true rfl (by kernel_rfl) (by kernel_rfl) rfl (fun T X hS hk K hK => ?_) ?_
          · skip
            have g90 : T[90]? = some (.agg #[.int .u64 (sw p 0 : Nat), .int .u64 (sw p 1 : Nat), .int .u64 (sw p 2 : Nat), .int .u64 (sw p 3 : Nat)]) := hk.val 17 90 (by kernel_rfl) (by kernel_rfl) rfl
            clear hk
            go_simp
            refine ((HTXH.out _ hS.1).out).mono ?_
            rintro e w1 ⟨rfl, hb⟩
            exact hK _ _ (⟨below_thn hS.1 (Nat.le_refl _) hb, blk_below hS.2.1 hb, blk_below hS.2.2 hb⟩) (Reg.Is.of_val rfl) (fun _ _ _ h => h)
          refine Reg.EachV.guarded 14 87 true rfl (by kernel_rfl) (by kernel_rfl) rfl (fun T X hS hk K hK => ?_) ?_
          · skip
            have g89 : T[89]? = some (.string ts) := hk.val 16 89 (by kernel_rfl) (by kernel_rfl) rfl
            have g91 : T[91]? = some (.string ts) := hk.val 18 91 (by kernel_rfl) (by kernel_rfl) rfl
            have hK := hK _ X hS (Reg.Is.of_val rfl) (fun _ _ _ h => h)
            clear hk
            go_simp
            exact hK
          refine Reg.EachV.plain rfl (fun T X hS hk K hK => ?_) ?_
          · skip
            have g87 : T[87]? = some (.bool true) := hk.val 14 87 (by kernel_rfl) (by kernel_rfl) rfl
            have g92 : T[92]? = some (.bool true) := hk.val 19 92 (by kernel_rfl) (by kernel_rfl) rfl
            have hK := hK _ X hS (Reg.Is.of_val rfl) (fun _ _ _ h => h)
            clear hk
            go_simp
            exact hK
          refine Reg.EachV.plain rfl (fun T X hS hk K hK => ?_) ?_
          · skip
            have g93 : T[93]? = some (.bool true) := hk.val 20 93 (by kernel_rfl) (by kernel_rfl) rfl
            have hK := hK _ X hS (Reg.Is.of_val rfl) (fun _ _ _ h => h)
            clear hk
            go_simp
            exact hK
          refine Reg.EachV.guarded 21 94 true rfl (by kernel_rfl) (by kernel_rfl) rfl (fun T X hS hk K hK => ?_) ?_
          · skip
            clear hk
            go_simp
            refine ((HA _).out).mono ?_
            rintro e w1 ⟨rfl, hb⟩
            exact hK _ _ (⟨below_thn hS.1 (Nat.le_refl _) hb, blk_below hS.2.1 hb, blk_below hS.2.2 hb⟩) (Reg.Is.of_val rfl) (fun _ _ _ h => h)
          refine Reg.EachV.plain rfl (fun T X hS hk K hK => ?_) ?_
          · skip
            have g94 : T[94]? = some (.bool true) := hk.val 21 94 (by kernel_rfl) (by kernel_rfl) rfl
            have g95 : T[95]? = some (.bool true) := hk.val 22 95 (by kernel_rfl) (by kernel_rfl) rfl
            have hK := hK _ X hS (Reg.Is.of_val rfl) (fun _ _ _ h => h)
            clear hk
            go_simp
            exact hK
          refine Reg.EachV.plain rfl (fun T X hS hk K hK => ?_) ?_
          · skip
            have g96 : T[96]? = some (.bool true) := hk.val 23 96 (by kernel_rfl) (by kernel_rfl) rfl
            have hK := hK _ X hS (Reg.Is.of_val rfl) (fun _ _ _ h => h)
            clear hk
            go_simp
            exact hK
          exact Reg.EachV.nil
        case rsZ =>
          intro u w1 hS hI
          have e0 : u 0 = .nilIface := (hI 0 (by decide)).val rfl
          have e1 : u 1 = .bool true := (hI 1 (by decide)).val rfl
          have e2 : u 2 = .bool true := (hI 2 (by decide)).val rfl
          have e3 : u 3 = .agg #[.int .u64 (sw p 0 : Nat), .int .u64 (sw p 1 : Nat), .int .u64 (sw p 2 : Nat), .int .u64 (sw p 3 : Nat)] := (hI 3 (by decide)).val rfl
          have e4 : u 4 = .agg #[.int .u64 (sw p 0 : Nat), .int .u64 (sw p 1 : Nat), .int .u64 (sw p 2 : Nat), .int .u64 (sw p 3 : Nat)] := (hI 4 (by decide)).val rfl
          have e5 : u 5 = .bool true := (hI 5 (by decide)).val rfl
          have e6 : u 6 = .bool true := (hI 6 (by decide)).val rfl
          have e7 : u 7 = .bool true := (hI 7 (by decide)).val rfl
          have e8 : u 8 = .int .i64 ((m : Int) + 1) := (hI 8 (by decide)).val rfl
          have e9 : u 9 = .slice a5 m cap5 := (hI 9 (by decide)).val rfl
          have e10 : u 10 = .int .i64 (m : Nat) := (hI 10 (by decide)).val rfl
          have e11 : u 11 = .int .i64 ((m : Int) + 1) := (hI 11 (by decide)).val rfl
          have e12 : u 12 = .bool true := (hI 12 (by decide)).val rfl
          have e13 : u 13 = .bool true := (hI 13 (by decide)).val rfl
          have e14 : u 14 = .bool true := (hI 14 (by decide)).val rfl
          have e15 : u 15 = .agg #[.int .u64 (sw p 0 : Nat), .int .u64 (sw p 1 : Nat), .int .u64 (sw p 2 : Nat), .int .u64 (sw p 3 : Nat)] := (hI 15 (by decide)).val rfl
          have e16 : u 16 = .string ts := (hI 16 (by decide)).val rfl
          have e17 : u 17 = .agg #[.int .u64 (sw p 0 : Nat), .int .u64 (sw p 1 : Nat), .int .u64 (sw p 2 : Nat), .int .u64 (sw p 3 : Nat)] := (hI 17 (by decide)).val rfl
          have e18 : u 18 = .string ts := (hI 18 (by decide)).val rfl
          have e19 : u 19 = .bool true := (hI 19 (by decide)).val rfl
          have e20 : u 20 = .bool true := (hI 20 (by decide)).val rfl
          have e21 : u 21 = .bool true := (hI 21 (by decide)).val rfl
          have e22 : u 22 = .bool true := (hI 22 (by decide)).val rfl
          have e23 : u 23 = .bool true := (hI 23 (by decide)).val rfl
          have e24 : u 24 = .bool true := (hI 24 (by decide)).val rfl
          clear hI
          simp only [Reg.putAll, Act.put, List.setIfInBounds_toArray, List.set_cons_succ, List.set_cons_zero, Nat.zero_add, Nat.reduceAdd, e0, e1, e2, e3, e4, e5, e6, e7, e8, e9, e10, e11, e12, e13, e14, e15, e16, e17, e18, e19, e20, e21, e22, e23, e24]
          clear e0 e1 e2 e3 e4 e5 e6 e7 e8 e9 e10 e11 e12 e13 e14 e15 e16 e17 e18 e19 e20 e21 e22 e23 e24
          have HE := Lib.hid hS.1
          clear hS
          go_wp2
          go_ret
          exact ⟨rfl, HE.out⟩
      · have hke : k = 0 := by omega
        subst hke
        obtain ⟨a5, cap5, hv5⟩ := own_shapeK HI.out.own
        have HBW := Lib.hid HI.out.bel
        have hl0 : (tB l 0).length = 0 := rfl
        rw [hl0] at hv5
        clear HOA HBA HXA HNE HBX HI
        subst hv5
        go_wp2_with fail
        refine (HA _).out.mono ?_
        rintro y w6 ⟨rfl, hb6⟩
        have HB6 := Lib.hid (below_thn HBW.out (Nat.le_refl _) hb6)
        clear hb6
        go_wp2_with fail
        go_ret
        exact ⟨rfl, HB6.out⟩
end Go.Proofs.YtndgomocehfmgaaDoor
/- SetBack's call, opened. -/
namespace Go.Proofs.YtndgomocehfmgaaDoor
open Go.RowKit

set_option maxRecDepth 100000 in
theorem setBack_open {H : Type} {enc : TypeId × Value → H} {d0 d1 : DataW H} {p0 p1 : List MemPlace} {q : Prop} (W : World) (base : Nat) (v0 v1 : Value)
    (h0 : DataW.Trod enc Tryd.prog W 0 (fun _ => true) true 28 v0 d0 p0) (h1 : DataW.Trod enc Tryd.prog W 0 (fun _ => true) true 3 v1 d1 p1)
    (k0 : Value.okWide Tryd.prog W .any base 28 v0) (k1 : Value.okWide Tryd.prog W .any base 3 v1) (_ : q) (hL : laidMetH Tryd.prog Rows.setBackRow.laid W) :
    Calls Tryd.prog 6 #[v0, v1] W fun e W' => e = .returned (.bool true) ∧ Below W.heap.size W W' := by
  obtain ⟨l, hs, _⟩ := sl_of_b k0 h0
  obtain ⟨n, rfl, rfl, rfl, _⟩ := ChangeShapes.open_int Tryd.underlying3 k1 h1
  obtain ⟨e, he, hT, hD⟩ := gl_of_laid (by kernel_rfl) (by kernel_rfl) hL
  obtain ⟨cf, hcf⟩ := classes_ok
  exact setback_any cf hcf e v0 l n W he hT hD hs
end Go.Proofs.YtndgomocehfmgaaDoor
namespace Go.Proofs.YtndgomocehfmgaaDoor
open Go.ChangeShapes Go.WideShapes Go.ChangeAt Go.RowKit

theorem setBack_own : ownKnob Tryd.prog.godebug = none := by kernel_rfl
theorem setBack_laidOut : laidOutB Tryd.prog = true := by kernel_rfl

set_option maxRecDepth 100000 in
theorem setBack_lifted (os : Os) (started : os.Started) (H : Type) (enc : TypeId × Value → H) :
    ReturnsInHanded {} Tryd.checked os 6 .any (fun w args => (Rows.setBackSpec.pre enc Tryd.prog Tryd.f6 [] false w args ∧ laidMetH Tryd.prog Rows.setBackRow.laid w) ∧ sizedMet enc Tryd.prog Tryd.f6 (OpenSpec.ofChange Rows.setBackSpec) false w args)
      (Rows.setBackSpec.post enc Tryd.prog Tryd.f6 false true false false) := by
  refine returnsInHanded_of_change_and (C := Tryd.checked) (X := fun w _ => laidMetH Tryd.prog Rows.setBackRow.laid w) (fun _ _ _ hh h => h.of_heap hh) setBack_own started (by kernel_rfl) Tryd.func6
    (ChangeSpec.witness_shaped (enc := enc) (C := Tryd.checked) (os := os) (X := fun w _ => laidMetH Tryd.prog Rows.setBackRow.laid w) false (World.laidAll Tryd.prog os Rows.setBackRow.laid) #[.slice none 0 0, .int .i64 0] 8 (World.laidAll_os _ _ _)
      (World.shaped_of_ZipB (by kernel_rfl) (by kernel_rfl)) (by kernel_rfl) (by kernel_rfl) (by kernel_rfl)
      (by rw [MakeChecks.laidMetH_plain _ _ _ (by kernel_rfl)]; exact laidMet_laidAll _ (by kernel_rfl) (by kernel_rfl))) ?_
  intro W base args ds gs before hval0 hW _ hsz0 hL _
  have hval : ∀ (j : Nat) t v, Tryd.f6.params[j]? = some t → args[j]? = some v → Value.okWide Tryd.prog W .any base t v := hval0
  have hsz : (DataW.weightsEach Tryd.prog (Tryd.f6.params.toList ++ Rows.setBackSpec.plain.varTypes Tryd.prog) (ds ++ gs)).all (· ≤ reachBytes) = true := hsz0
  clear hsz0
  have hW' := hW
  obtain ⟨p, q, hA0, hV, rfl, hfz, hnd⟩ := hW
  have hA : DataW.TrodAll enc Tryd.prog W 0 (fun _ => true) true Tryd.f6.params.toList args.toList ds p := hA0
  rw [Tryd.params6] at hA hval hsz
  obtain ⟨v0, v1, d0, d1, p0, p1, rfl, rfl, rfl, h0, h1⟩ := trodAll_two hA
  obtain ⟨rfl, rfl⟩ := trodVars_none hV
  clear hA0 hval0
  simp only [List.append_nil] at hW'
  have hlt : ∀ x ∈ p0 ++ (p1), x.block < W.heap.size := fun x hx => by first | simpa using hW'.lt x hx | simpa using hW'.lt x (by simpa using hx)
  refine (setBack_open W base v0 v1 h0 h1 (hval 0 28 v0 rfl rfl) (hval 1 3 v1 rfl rfl) hsz hL).mono fun e W' ⟨he, hb⟩ => ?_
  subst he
  have e1 : Rows.setBackSpec.fn H ([d0, d1] ++ []) = { results := [.lit (.bool true)], args := [d0, d1] } := by simp [Rows.setBackSpec]
  refine ⟨_, rfl, _, _, _, [], p0 ++ (p1), [], hW', ?_, ?_, ?_, hb.frame _, fun h => by cases h⟩
  · rw [e1]; exact trodAll_mk1 (shut_bool Tryd.underlying4 true)
  · rw [e1]; exact trodAll_mk2 (Below.trod setBack_laidOut (by kernel_rfl) (of_decide_eq_true (by kernel_rfl)) h0 hb (fun x hx => hlt x (by simp [hx]))) (Below.trod setBack_laidOut (by kernel_rfl) (of_decide_eq_true (by kernel_rfl)) h1 hb (fun x hx => hlt x (by simp [hx])))
  · rw [e1]; rfl

theorem setBack_said : Rows.SetBackSaid :=
  OpenClaim.holds_of_wide 6 Tryd.f6 rfl rfl rfl rfl rfl rfl rfl ⟨rfl, rfl, rfl, rfl, rfl⟩ rfl rfl rfl rfl rfl (by kernel_rfl) Tryd.func6 (by kernel_rfl)
    (of_decide_eq_true (by kernel_rfl)) (by unfold Func.isWrapper; rw [if_neg (of_decide_eq_false (by kernel_rfl))]; exact ⟨rfl, rfl⟩)
    (fun os started H enc _ => setBack_lifted os started H enc)

theorem setBack_holds : Rows.SetBackCardSaid :=
  Claim7.holds_tied_plain_at .later [] Rows.setBackCard.laidKinds true Rows.setBackCard.stood.harness Rows.setBackCard.stood.looks
    setBack_said (fun _ h => by cases h) (by kernel_rfl) (fun _ h => by cases h) setBack_row_tie rfl ⟨rfl, rfl⟩ (by kernel_rfl) rfl
    (fun f fn hf hfn => by
      obtain rfl : f = 6 := Option.some.inj ((show Tryd.prog.funcNamed "pidgin/pidginlaw5.SetBack" = some 6 by kernel_rfl).symm.trans hf) |>.symm
      obtain rfl : fn = Tryd.f6 := (Option.some.inj (Tryd.func6.symm.trans hfn)).symm
      exact ⟨by kernel_rfl, fun j t ht => by
        rw [Tryd.params6] at ht
        have hm : t ∈ [28, 3] := by simpa using Array.mem_of_getElem? ht
        have hall : ([28, 3].all fun u => !Tryd.prog.wantsStandIn u) = true := by kernel_rfl
        exact (show Tryd.prog.wantsStandIn t = false by simpa using List.all_eq_true.1 hall t hm)⟩)
    (by kernel_rfl)
#print axioms setBack_holds
end Go.Proofs.YtndgomocehfmgaaDoor
