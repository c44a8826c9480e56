/- KNb: several texts in one (kmerge.py). -/
import Derived.Test.YtcceiblmdjbhjaaGreatDoorKNm
import Derived.Test.YtcceiblmdjbhjaaGreatDoorKPu
import Derived.RangeFuncNested
import Derived.RangeFuncBox
import Derived.RangeFuncLeaves
import Derived.Shelf.Abstract
import Derived.WalkKit
import Derived.OwnWalkIn
import Derived.TacticsInMore
import Derived.LoopNIn
import Derived.LoopIn
import Derived.Test.YtcceiblmdjbhjaaGreatDoorKRs
/- slices.Backward over a row of trees: its closure's contract. -/
namespace Go.Proofs.YtcceiblmdjbhjaaGreatDoor
open Go.RowKit Go.Shelf

attribute [local go_sem] Oper.semAt_some

/-- What a round leaves alone: all that is neither a graph nor states nor a number. -/
def ChT (w w' : World) : Prop := ∀ (i : Nat) (cs : Array Value) (T : TypeId) (z : Nat × Nat), T ≠ 125 → T ≠ 122 → T ≠ 3 → w.heap[i]? = some (.cells cs T z) → w'.heap[i]? = w.heap[i]?
theorem ChT.refl (w : World) : ChT w w := fun _ _ _ _ _ _ _ _ => rfl
theorem ChT.trans {a b c : World} (h : ChT a b) (k : ChT b c) : ChT a c := fun i cs T z h1 h2 h3 h4 => (k i cs T z h1 h2 h3 ((h i cs T z h1 h2 h3 h4).trans h4)).trans (h i cs T z h1 h2 h3 h4)
theorem ChT.put (W : World) (l : Nat) (o o' : Obj) (h : W.heap[l]? = some o) (ho : o.isCells = false) : ChT W (W.putObj l o') := fun i cs T z _ _ _ h4 =>
  (grownBy_putObj' W l o').block i (lt_blkB h4) (fun e => by
    obtain rfl := Option.some.inj e
    rw [h4] at h
    rw [← Option.some.inj h] at ho
    cases ho)
theorem ChG.t {B : Nat} {w w' : World} (h : ChG B w w') : ChT w w' := fun i cs T z h1 h2 _ h4 => h.oth i cs T z h1 h2 h4
theorem ChT.blk {w w' : World} (h : ChT w w') {i : Nat} {cs : Array Value} {T : TypeId} {z : Nat × Nat} (hb : w.heap[i]? = some (.cells cs T z)) (h1 : T ≠ 125) (h2 : T ≠ 122) (h3 : T ≠ 3) : w'.heap[i]? = some (.cells cs T z) := (h i cs T z h1 h2 h3 hb).trans hb
theorem wpListIn_load_part {F : Fence} {n : Nat} {P : Program} {ops : Array Oper} {rest : List Oper} {o : Oper} {a : Act} {w : World} {Q : Exit → Act → World → Prop} (hgd : o.guard = none) (ty : TypeId) (x : Operand) (ho : o.op = .load ty x)
    (g i : Nat) (hx : a.eval x = .pointer (some ⟨g, i, none⟩)) (t : TypeId) (cs : Array Value) (part : List Value) (fr : Nat × Nat) (d : TypeDesc) (hg : w.heap[g]? = some (.cells cs t fr)) (hp : ∀ j u, part[j]? = some u → cs[i + j]? = some u)
    (hu : P.underlying ty = some d) (hd : (match d with | .struct _ | .array _ _ => true | _ => false) = true) (hi : (P.info? ty).map (·.size) = some part.length)
    (h : wpListIn F n P ops Q rest (a.put o.dst (.agg part.toArray)) w) : wpListIn F n P ops Q (o :: rest) a w := by
  refine wpListIn_plain hgd fun K hK => ?_
  unfold Oper.wpIn
  refine ⟨?_, ?_⟩
  · simp [Oper.about, ho]
  · rw [Oper.semAt_plain F _ _ (by rw [ho]; intro c hc'; cases hc')]
    unfold execOp
    simp only [ho, hx, Instr.loadAt, Instr.sureAddr, Sem.run_bind, Sem.run_pure, Result.andThen_ok, run_loadVar_part w g i t ty cs part fr d hg hp hu hd hi]
    exact hK _ _ h




theorem dnL_len (len k : Nat) : (downL len k).length = k := by simp [downL]

set_option maxRecDepth 100000 in
set_option maxHeartbeats 4000000 in
theorem bw1_in (F : Fence) (n : Nat) (hf : F.fn 125) (hro : F.round = none) (hn : 1 ≤ n) (l Bs b len cap : Nat) (cur : Array Value) (vs : Nat → List Value) (hlen : len ≤ 1048576) (J Jx : List Nat → World → Prop)
    (hvs : ∀ k, (vs k).length = 9) (hcur : ∀ k, k < len → ∀ i u, (vs k)[i]? = some u → cur[k * 9 + i]? = some u)
    (hY : ∀ pre x W, J pre W → pre.length < len → YieldAt F (n - 1) Tryz.prog l #[.int .i64 (x : Nat), .agg (vs x).toArray] W fun e W' =>
      (e = .returned (.bool true) ∧ J (pre ++ [x]) W' ∧ ChT W W') ∨ (e = .returned (.bool false) ∧ Jx (pre ++ [x]) W'))
    (W : World) (hBs : W.heap[Bs]? = some (.cells #[.slice (some ⟨b, 0, none⟩) len cap] 27 (0, 0))) (hcb : W.heap[b]? = some (.cells cur 29 (0, 0))) (h0 : J [] W) :
    CallsIn F n Tryz.prog 125 #[.func (.yield l) #[] #[], .pointer (some ⟨Bs, 0, none⟩)] W fun e W' => (∃ v, e = .returned v) ∧
      ((∃ ys, ys = downL len len ∧ J ys W') ∨ (∃ pre, (∃ k, k ≤ len ∧ pre = downL len k) ∧ Jx pre W')) := by
  have HCB := Lib.hid hcb
  have HBS := Lib.hid hBs
  have hbs0 : W.cell? ⟨Bs, 0, none⟩ = some (.slice (some ⟨b, 0, none⟩) len cap) := (Lib.cell_of_heap hBs 0).trans rfl
  have HCUR := Lib.hid hcur
  have HVS := Lib.hid hvs
  have HY := Lib.hid hY
  clear hcb hcur hvs hY hBs
  refine callsIn_of_wp Tryz.func125 rfl hf ?_ hro
  simp only [Tryz.ntmps125, List.size_toArray, List.length_cons, List.length_nil, Nat.reduceAdd, Nat.reduceSub, Array.replicate_succ, Array.replicate_zero, List.push_toArray, List.append_toArray, List.nil_append, List.cons_append]
  gi_wp2
  gi_loopw [3] (fun i wr => ∃ (k : Nat) (q : Int), k ≤ len ∧ q = (len : Int) - 1 - k ∧ i = .int .i64 q ∧ J (downL len k) wr ∧ ChT W wr)
    (fun i _ => (intOf i + 1).toNat)
  case atStart => exact ⟨0, _, Nat.zero_le _, by simp, rfl, h0, ChT.refl _⟩
  case round =>
    obtain ⟨k, q, hk, hq, rfl, hJs, hnx⟩ := hrel
    have hbs : wr.cell? ⟨Bs, 0, none⟩ = some (.slice (some ⟨b, 0, none⟩) len cap) := (Lib.cell_of_heap (hnx.blk HBS.out (by decide) (by decide) (by decide)) 0).trans rfl
    by_cases hlt : k < len
    · obtain ⟨j, hj⟩ : ∃ j, j = len - 1 - k := ⟨_, rfl⟩
      obtain rfl : q = (j : Int) := by omega
      have hjl : (j : Int) < (len : Int) := by omega
      have hj0 : (0 : Int) ≤ (j : Int) := by omega
      have HX : Hid (wr.heap[b]? = some (.cells cur 29 (0, 0))) := Lib.hid (hnx.blk HCB.out (by decide) (by decide) (by decide))
      have hbl := lt_blkB HX.out
      have HP : Hid (∀ i u, (vs j)[i]? = some u → cur[j * 9 + i]? = some u) := Lib.hid (HCUR.out j (by omega))
      have HV : Hid ((vs j).length = 9) := Lib.hid (HVS.out j)
      have HD : Hid (downL len (k + 1) = downL len k ++ [j]) := Lib.hid (by rw [downL_succ, hj])
      obtain ⟨fn, tmps, assign, body, hy, hR⟩ := HY.out _ j wr hJs (by rw [dnL_len]; exact hlt)
      have HQ := Lib.hid hq
      have HJ := Lib.hid hj
      clear hq hj hJs
      gi_wp2_with (first | (refine wpListIn_load_part rfl 29 _ rfl b (j * 9) rfl _ cur (vs j) (0, 0) _ HX.out HP.out Tryz.underlying29 rfl (by rw [HV.out]; exact nre_size) ?_) | fail)
      refine hR.mono ?_
      rintro e W3 (⟨rfl, hJ3, hk3⟩ | ⟨rfl, hJx3⟩)
      · gi_wp2
        go_roundw
        case rel => exact ⟨k + 1, _, by omega, by have := HQ.out; omega, rfl, by rw [HD.out]; exact hJ3, hnx.trans hk3⟩
        case measure => simp [intOf]
      · gi_wp2
        refine bodyPost_ret (results_none rfl _ _ _) rfl ?_
        exact ⟨⟨_, rfl⟩, .inr ⟨_, ⟨k + 1, by omega, HD.out.symm⟩, hJx3⟩⟩
    · obtain rfl : k = len := by omega
      obtain rfl : q = -1 := by omega
      gi_wp2
      go_end0
      exact ⟨⟨_, rfl⟩, .inl ⟨_, rfl, hJs⟩⟩
set_option maxRecDepth 100000 in
set_option maxHeartbeats 2000000 in
/-- No tree: no round. -/
theorem bw1_nil_in (F : Fence) (n : Nat) (hf : F.fn 125) (hro : F.round = none) (l Bs : Nat) (a : Option Addr) (cap : Nat) (J : List Nat → World → Prop) (W : World) (hBs : W.cell? ⟨Bs, 0, none⟩ = some (.slice a 0 cap)) (h0 : J [] W) :
    CallsIn F n Tryz.prog 125 #[.func (.yield l) #[] #[], .pointer (some ⟨Bs, 0, none⟩)] W fun e W' => (∃ v, e = .returned v) ∧ J [] W' := by
  refine callsIn_of_wp Tryz.func125 rfl hf ?_ hro
  simp only [Tryz.ntmps125, List.size_toArray, List.length_cons, List.length_nil, Nat.reduceAdd, Nat.reduceSub, Array.replicate_succ, Array.replicate_zero, List.push_toArray, List.append_toArray, List.nil_append, List.cons_append]
  gi_wp2
  gi_loopw [3] (fun i wr => i = .int .i64 (-1) ∧ J [] wr) (fun _ _ => 0)
  case atStart => exact ⟨rfl, h0⟩
  case round =>
    obtain ⟨rfl, hJs⟩ := hrel
    gi_wp2
    go_end0
    exact ⟨⟨_, rfl⟩, hJs⟩
set_option maxHeartbeats 1000000 in
theorem bw_any (a : Option Addr) (len cap : Nat) (w : World) :
    Calls Tryz.prog 93 #[.slice a len cap] w fun e w' => e = .returned (.func (.func 125) #[] #[.pointer (some ⟨w.heap.size, 0, none⟩)]) ∧ w' = w.alloc (.cells #[.slice a len cap] 27) := by
  go_enter Tryz.func93, Tryz.ntmps93
  go_wp2
  go_ret
  exact ⟨rfl, rfl⟩
/-- BACKWARD OVER A ROW OF TREES, as the caller's law wants it. -/
theorem bw_stops (F : Fence) (n : Nat) (hf : F.fn 125) (hro : F.round = none) (hn : 1 ≤ n) (Bs len cap : Nat) (sa : Option Addr) (vs : Nat → List Value) (hlen : len ≤ 1048576) (w : World)
    (hc : w.heap[Bs]? = some (.cells #[.slice sa len cap] 27 (0, 0))) (hvs : ∀ k, (vs k).length = 9)
    (hI : len = 0 ∨ ∃ b cur, sa = some ⟨b, 0, none⟩ ∧ w.heap[b]? = some (.cells cur 29 (0, 0)) ∧ ∀ k, k < len → ∀ i u, (vs k)[i]? = some u → cur[k * 9 + i]? = some u) :
    SeqStopsK F n Tryz.prog 125 #[.pointer (some ⟨Bs, 0, none⟩)] (fun x : Nat => #[Value.int .i64 (x : Nat), .agg (vs x).toArray]) ChT (fun ys => ys = downL len len) (fun pre => ∃ k, k ≤ len ∧ pre = downL len k) len w := fun l J Jx W hW _ _ hY h0 => by
  have hc' := blk_below hc hW
  rcases hI with rfl | ⟨b, cur, rfl, hcb, hcur⟩
  · exact (bw1_nil_in F n hf hro l Bs sa cap J W ((Lib.cell_of_heap hc' 0).trans rfl) h0).mono fun e W' ⟨he, hj⟩ => ⟨he, .inl ⟨_, rfl, hj⟩⟩
  · exact bw1_in F n hf hro hn l Bs b len cap cur vs hlen J Jx hvs hcur hY W hc' (blk_below hcb hW) h0
end Go.Proofs.YtcceiblmdjbhjaaGreatDoor
/- part: a row of trees: a loop over slices.Backward; what its rounds keep. -/
namespace Go.Proofs.YtcceiblmdjbhjaaGreatDoor
open Go.RowKit Go.Shelf

attribute [local go_sem] Oper.semAt_some

theorem wpListIn_store_partC {F : Fence} {n : Nat} {P : Program} {ops : Array Oper} {rest : List Oper} {o : Oper} {a : Act} {w : World} {Q : Exit → Act → World → Prop} (hgd : o.guard = none) (ty : TypeId) (x y : Operand) (ho : o.op = .store ty x y) (hd : o.dst = none)
    (g i : Nat) (vs : List Value) (hx : a.eval x = .pointer (some ⟨g, i, none⟩)) (hy : a.eval y = .agg vs.toArray)
    (t : TypeId) (cur : Array Value) (hg : w.heap[g]? = some (.cells cur t (0, 0))) (hi : (P.info? ty).map (·.size) = some vs.length)
    (hc : i + vs.length ≤ cur.size) (h1 : vs.all (·.oneCell') = true) (C' : Array Value) (hC : (spl cur.toList i vs).toArray = C')
    (h : wpListIn F n P ops Q rest a (w.setRow g C')) : wpListIn F n P ops Q (o :: rest) a w := by
  subst hC
  refine wpListIn_plain hgd fun K hK => ?_
  unfold Oper.wpIn
  refine ⟨?_, ?_⟩
  · simp [Oper.about, ho]
  · rw [Oper.semAt_plain F _ _ (by rw [ho]; intro c hc'; cases hc')]
    unfold execOp
    simp only [ho, hx, hy, Instr.storeAt, Instr.sureAddr, Sem.run_bind, Sem.run_pure, Result.andThen_ok, run_storeVar_part w g i t ty cur vs hg hi hc h1]
    show K (a.put o.dst undef) _
    rw [hd]
    exact hK _ _ h
theorem row_freeN {X : World} {b : Nat} {cs : Array Value} {t : TypeId} (h : X.heap[b]? = some (.cells cs t (0, 0))) (i : Nat) : X.frozen? ⟨b, i, none⟩ = false := by
  simp [World.frozen?, h]
theorem spl_all (cur vs : List Value) (h : vs.length = cur.length) : spl cur 0 vs = vs := by
  unfold spl
  rw [List.take_zero, List.nil_append, List.drop_eq_nil_of_le (by omega), List.append_nil]
theorem turn_blk {base : Nat} {A A' : World} {row : Option Nat} {k : Nat} {c : Array Value} {T : TypeId} {z : Nat × Nat} (h : A.heap[k]? = some (.cells c T z)) (hg : A.grownBy A' row) (hr : ∀ r, row = some r → base ≤ r ∧ ∃ o : Obj, A.heap[r]? = some o ∧ o.isCells = false) : A'.heap[k]? = some (.cells c T z) :=
  (hg.block k (lt_blkB h) (fun e => by
    obtain ⟨_, o, ho, hoc⟩ := hr k e.symm
    rw [h] at ho
    rw [← Option.some.inj ho] at hoc
    cases hoc)).trans h
theorem GrAt.turn {B gb st base : Nat} {g : List St} {A A' : World} {row : Option Nat} (h : GrAt B gb g st A) (hg : A.grownBy A' row) (hr : ∀ r, row = some r → base ≤ r ∧ ∃ o : Obj, A.heap[r]? = some o ∧ o.isCells = false) : GrAt B gb g st A' := by
  obtain ⟨h0, v, h1, h2⟩ := h
  exact ⟨h0, v, turn_blk h1 hg hr, own_same h2 fun b _ cs hc => (turn_blk hc hg hr).trans hc.symm⟩
theorem ChG.turn {B base : Nat} {w A A' : World} {row : Option Nat} (h : ChG B w A) (hB : B ≤ w.heap.size) (hb : w.heap.size ≤ base) (hg : A.grownBy A' row) (hr : ∀ r, row = some r → base ≤ r ∧ ∃ o : Obj, A.heap[r]? = some o ∧ o.isCells = false) : ChG B w A' :=
  ⟨h.bel.grown hg (Nat.le_trans hB h.bel.size) (fun k e => by have := (hr k e).1; omega), fun i cs T z h1 h2 h3 => by
    have h4 := (h.oth i cs T z h1 h2 h3).trans h3
    exact (turn_blk h4 hg hr).trans h3.symm, ⟨Nat.le_trans h.kp.size hg.size, fun k o hk ho => (hg.block k (Nat.lt_of_lt_of_le (lt_blkB hk) h.kp.size) (fun e => by have := (hr k e.symm).1; have := lt_blkB hk; omega)).trans (h.kp.same k o hk ho)⟩⟩
theorem ChG.setNew {B : Nat} {w A : World} (h : ChG B w A) (hB : B ≤ w.heap.size) {x : Nat} (hx : w.heap.size ≤ x) (i : Nat) (y : Value) : ChG B w (A.setCell ⟨x, i, none⟩ y) :=
  ⟨h.bel.setCell (p := ⟨x, i, none⟩) (Nat.le_trans hB hx) _, fun k cs T z h1 h2 h3 => (Below.heap_setCell _ _ _ _ (by have := lt_blkB h3; simp; omega)).trans (h.oth k cs T z h1 h2 h3), h.kp.trans (KeepsOthers.setCell _ _ _)⟩
theorem GrAt.setInt {B gb st b : Nat} {g : List St} {X : World} {cs : Array Value} (h : GrAt B gb g st X) (hb : X.heap[b]? = some (.cells cs 3 (0, 0))) (i : Nat) (y : Value) : GrAt B gb g st (X.setCell ⟨b, i, none⟩ y) := by
  obtain ⟨h0, v, h1, h2⟩ := h
  exact ⟨h0, v, (Below.heap_setCell _ _ _ _ (by simp; intro e; subst e; rw [hb] at h1; simp at h1)).trans h1, own_set h2 hb (by decide) _ _⟩
theorem ChT.setInt {b : Nat} {X : World} {cs : Array Value} (hb : X.heap[b]? = some (.cells cs 3 (0, 0))) (i : Nat) (y : Value) : ChT X (X.setCell ⟨b, i, none⟩ y) := fun k c T z _ _ h3 h4 =>
  Below.heap_setCell _ _ _ _ (by simp; intro e; subst e; rw [hb] at h4; simp only [Option.some.injEq, Obj.cells.injEq] at h4; exact h3 h4.2.1.symm)
theorem blk_set1i {X : World} {b : Nat} {v y : Value} {T : TypeId} (h : X.heap[b]? = some (.cells #[v] T (0, 0))) : (X.setCell ⟨b, 0, none⟩ y).heap[b]? = some (.cells #[y] T (0, 0)) := by
  simp [World.setCell, Array.getElem?_modify, h]
theorem rowB_lenA {l : List Nd} (h : (fo l).Ok) (hl : 0 < l.length) (r : List St × Nat) (pre : List Nat) : (rowB l pre r).1.length ≤ r.1.length + pre.length * (fo l).W := by
  have := rowB_len h hl r pre.reverse
  rw [List.reverse_reverse, List.length_reverse] at this
  exact this
theorem rowB_goodA {l : List Nd} (h : (fo l).Ok) (hl : 0 < l.length) (r : List St × Nat) (hr : r.2 < r.1.length) (pre : List Nat) : (rowB l pre r).2 < (rowB l pre r).1.length := by
  have := rowB_good h hl r hr pre.reverse
  rw [List.reverse_reverse] at this
  exact this
theorem altB_lenA {l : List Nd} (h : (fo l).Ok) (hl : 0 < l.length) (nx : Nat) (r : List St × Nat) (pre : List Nat) : (altB l nx pre r).1.length ≤ r.1.length + pre.length * ((fo l).W + 1) := by
  have := altB_len h hl nx r pre.reverse
  rw [List.reverse_reverse, List.length_reverse] at this
  exact this
theorem altB_goodA {l : List Nd} (h : (fo l).Ok) (hl : 0 < l.length) (nx : Nat) (r : List St × Nat) (hr : nx < r.1.length) (pre : List Nat) : nx < (altB l nx pre r).1.length := by
  have := altB_good h hl nx r hr pre.reverse
  rw [List.reverse_reverse] at this
  exact this
theorem nd_one9 (n : Nd) (kv : Value) (h : ∃ a m c, kv = .slice a m c) : (n.cells kv).all (·.oneCell') = true := by
  obtain ⟨a, m, c, rfl⟩ := h
  exact List.all_eq_true.2 (cells_one9 n a m c)
/-- Kids in memory, each by its place. -/
theorem kids_vs {S : Nat → Prop} {w : World} {n : Nd} {l : List Nd} (hl : n.kids = fo l) {ka : Option Addr} {km kc : Nat} (hin : n.In w S (.slice ka km kc)) :
    km = l.length ∧ ∃ kvs : Nat → Value, (∀ x, ∃ a m c, kvs x = .slice a m c) ∧ (0 < l.length → ∀ x, (kidAt l x).In w S (kvs x)) ∧
      (l.length = 0 ∨ ∃ b cur, ka = some ⟨b, 0, none⟩ ∧ S b ∧ w.heap[b]? = some (.cells cur 29 (0, 0)) ∧ ∀ k, k < l.length → ∀ i u, ((kidAt l k).cells (kvs k))[i]? = some u → cur[k * 9 + i]? = some u) := by
  obtain ⟨ks, ⟨hown, hS⟩, hlay⟩ := hin
  rw [hl] at hlay hown
  rw [fo_len] at hown
  have hkm : km = l.length := by
    obtain ⟨_, cap, e⟩ := own_shapeR hown
    simp only [Value.slice.injEq] at e
    exact e.2.1
  refine ⟨hkm, ?_⟩
  have hch : ∀ x : Nat, ∃ kv : Value, (∃ a m c, kv = .slice a m c) ∧ (0 < l.length → (kidAt l x).In w S kv ∧ ∀ i, i < 9 → ks[min x (l.length - 1) * 9 + i]? = ((kidAt l x).cells kv)[i]?) := by
    intro x
    by_cases h0 : 0 < l.length
    · have hx : min x (l.length - 1) < l.length := by omega
      obtain ⟨kv, h1, h2⟩ := lay_at hlay (List.getElem?_eq_getElem hx)
      have e : kidAt l x = l[min x (l.length - 1)] := by unfold kidAt; rw [List.getElem?_eq_getElem hx]; rfl
      rw [e]
      exact ⟨kv, h1.shape, fun _ => ⟨h1, h2⟩⟩
    · exact ⟨nilS, ⟨_, _, _, rfl⟩, fun h => (h0 h).elim⟩
  obtain ⟨kvs, hk⟩ := Classical.axiomOfChoice hch
  refine ⟨kvs, fun x => (hk x).1, fun h x => ((hk x).2 h).1, ?_⟩
  obtain ⟨_, ⟨_, hz⟩ | ⟨g, cap, cur, hv, _, hg, hnc, _, hcs, htk⟩⟩ := hown
  · exact Or.inl hz
  · by_cases h0 : l.length = 0
    · exact Or.inl h0
    simp only [Value.slice.injEq] at hv
    obtain ⟨rfl, _, rfl⟩ := hv
    refine Or.inr ⟨g, cur, rfl, hS g rfl, hg, fun k hkl i u hu => ?_⟩
    have h1 := ((hk k).2 (by omega)).2 i (by have := (List.getElem?_eq_some_iff.1 hu).1; rwa [Nd.cells_len] at this)
    rw [Nat.min_eq_left (by omega), hu, ← htk, List.getElem?_take] at h1
    split at h1
    · simpa using h1
    · cases h1

set_option maxRecDepth 100000 in
set_option maxHeartbeats 8000000 in
theorem part_row (N : Nat) (ih : PtOk N) (B gb st : Nat) (kd : Int) (p : Nat → Bool) (mn mx gp : Int) (l : List Nd) (ka : Option Addr) (km kc : Nat) (g : List St) (nx : Nat) (w : World) (hk : ¬ (kd = 1 ∨ kd = 2 ∨ kd = 3 ∨ kd = 5 ∨ kd = 6)) (h : GrAt B gb g st w) (hB : B ≤ w.heap.size)
    (hN : (fo l).nn ≤ N) (hok : (fo l).Ok) (hlt : (fo l).Lt) (hW : (fo l).W ≤ 4000) (hll : l.length ≤ 1100) (hlen : g.length + ((fo l).nn + 1) * 8000000 ≤ 1099511627776) (hnx : nx < g.length) (hin : Nd.In w (fun b => b < B) ⟨kd, p, mn, mx, gp, fo l⟩ (.slice ka km kc)) :
    Calls Tryz.prog 70 #[.pointer (some ⟨gb, 0, none⟩), Nd.v ⟨kd, p, mn, mx, gp, fo l⟩ (.slice ka km kc), .int .i64 (nx : Nat)] w (PtQ B gb st (Nd.B ⟨kd, p, mn, mx, gp, fo l⟩ g nx) w) := by
  obtain ⟨hkm, kvs, hks, hki, hkc⟩ := kids_vs (n := ⟨kd, p, mn, mx, gp, fo l⟩) (l := l) rfl hin
  subst hkm
  have n1 : ¬ kd = 1 := by omega
  have n2 : ¬ kd = 2 := by omega
  have n3 : ¬ kd = 3 := by omega
  have n5 : ¬ kd = 5 := by omega
  have n6 : ¬ kd = 6 := by omega
  obtain ⟨R, hR⟩ : ∃ R, R = Nd.B ⟨kd, p, mn, mx, gp, fo l⟩ g nx := ⟨_, rfl⟩
  rw [← hR]
  have HRES : Hid (R = rowB l (downL l.length l.length) (g, nx)) := Lib.hid (by
    rw [rowB_all, hR]
    unfold Nd.B ndB
    simp only [if_neg n1, if_neg n2, if_neg n3, if_neg n5, if_neg n6])
  have HG := Lib.hid h
  have HIN := Lib.hid hin
  have HKI := Lib.hid hki
  have HKC := Lib.hid hkc
  have HKS := Lib.hid hks
  have HOK := Lib.hid hok
  have HLT := Lib.hid hlt
  have HIH := Lib.hid ih
  have hnn := Fo.len_nn (fo l)
  rw [fo_len] at hnn
  clear h hin hki hkc hks hok hlt ih hk hR
  refine (callsIn_wide (n := 3)).1 ?_
  refine callsIn_of_wp_marks Tryz.func70 rfl trivial ?_ rfl
  simp only [Tryz.ntmps70, List.size_toArray, List.length_cons, List.length_nil, Nat.reduceAdd, Nat.reduceSub, Array.replicate_succ, Array.replicate_zero, List.push_toArray, List.append_toArray, List.nil_append, List.cons_append]
  unfold Nd.v Nd.cells
  gi_wp2_with (first | (refine ⟨trivial, ?_⟩; gi_at_call 93; refine (callsIn_wide.2 (bw_any _ _ _ _)).mono ?_; rintro e w' ⟨rfl, rfl⟩) | fail)
  obtain ⟨W0, hW0⟩ : ∃ W0, W0 = (((w.alloc (.cells #[.pointer (some ⟨gb, 0, none⟩)] 66)).alloc (.cells #[.int .i64 kd, .int .u64 (sw p 0 : Nat), .int .u64 (sw p 1 : Nat), .int .u64 (sw p 2 : Nat), .int .u64 (sw p 3 : Nat), .int .i64 mn, .int .i64 mx, .int .i64 gp, .slice ka l.length kc] 29)).alloc (.cells #[.int .i64 (nx : Nat)] 3)).alloc (.cells #[.slice ka l.length kc] 27) := ⟨_, rfl⟩
  rw [← hW0]
  have hb : Below w.heap.size w W0 := by rw [hW0]; exact ((((Below.refl _ _).alloc (Nat.le_refl _) _).alloc (by simp) _).alloc (by simp; omega) _).alloc (by simp; omega) _
  have hz0 : W0.heap.size = w.heap.size + 4 := by rw [hW0]; simp
  have hb0 : W0.heap[w.heap.size]? = some (.cells #[.pointer (some ⟨gb, 0, none⟩)] 66 (0, 0)) := by rw [hW0]; exact blk_alloc (blk_alloc (blk_alloc (alloc_last w _) _) _) _
  have hb2 : W0.heap[w.heap.size + 1 + 1]? = some (.cells #[.int .i64 (nx : Nat)] 3 (0, 0)) := by
    rw [hW0]
    refine blk_alloc ?_ _
    generalize hq : (w.alloc (.cells #[.pointer (some ⟨gb, 0, none⟩)] 66)).alloc (.cells #[.int .i64 kd, .int .u64 (sw p 0 : Nat), .int .u64 (sw p 1 : Nat), .int .u64 (sw p 2 : Nat), .int .u64 (sw p 3 : Nat), .int .i64 mn, .int .i64 mx, .int .i64 gp, .slice ka l.length kc] 29) = w2
    have hz : w2.heap.size = w.heap.size + 1 + 1 := by rw [← hq]; simp
    rw [← hz]
    exact alloc_last w2 _
  have hb3 : W0.heap[w.heap.size + 1 + 1 + 1]? = some (.cells #[.slice ka l.length kc] 27 (0, 0)) := by
    rw [hW0]
    generalize hq : ((w.alloc (.cells #[.pointer (some ⟨gb, 0, none⟩)] 66)).alloc (.cells #[.int .i64 kd, .int .u64 (sw p 0 : Nat), .int .u64 (sw p 1 : Nat), .int .u64 (sw p 2 : Nat), .int .u64 (sw p 3 : Nat), .int .i64 mn, .int .i64 mx, .int .i64 gp, .slice ka l.length kc] 29)).alloc (.cells #[.int .i64 (nx : Nat)] 3) = w2
    have hz : w2.heap.size = w.heap.size + 1 + 1 + 1 := by rw [← hq]; simp
    rw [← hz]
    exact alloc_last w2 _
  have HB := Lib.hid hb
  have hBW : B ≤ W0.heap.size := Nat.le_trans hB hb.size
  clear hW0 hb
  refine wpIn_rangeFunc_ownH rfl (by decide) (gf := 125) (lb := #[.pointer (some ⟨w.heap.size + 1 + 1 + 1, 0, none⟩)]) rfl trivial (enters_of Tryz.func125 (by kernel_rfl) rfl)
    (bw_stops Fence.wide 2 trivial rfl (by decide) (w.heap.size + 1 + 1 + 1) l.length kc ka (fun x => (kidAt l x).cells (kvs x)) (by omega) W0 hb3 (fun k => Nd.cells_len _ _) ?hI) ChT.trans (fun W l o o' _ h ho _ => ChT.put W l o o' h ho) (Below.refl _ _) (fun _ => rfl)
    (fun pre W => (GrAt B gb (rowB l pre (g, nx)).1 st W ∧ W.heap[w.heap.size]? = some (.cells #[.pointer (some ⟨gb, 0, none⟩)] 66 (0, 0)) ∧ W.heap[w.heap.size + 1 + 1]? = some (.cells #[.int .i64 ((rowB l pre (g, nx)).2 : Nat)] 3 (0, 0))) ∧ ChG B w W)
    (fun _ _ _ => False) ?own (fun _ _ _ _ _ hs _ _ => hs) ⟨⟨HG.out.below HB.out, hb0, hb2⟩, ChG.below HB.out hB⟩
    (fun x a' W => ∃ Bx, W.heap[Bx]? = some (.cells ((kidAt l x).cells (kvs x)).toArray 29 (0, 0)) ∧ a' = { tmps := #[.pointer (some ⟨gb, 0, none⟩), .agg #[.int .i64 kd, .int .u64 (sw p 0 : Nat), .int .u64 (sw p 1 : Nat), .int .u64 (sw p 2 : Nat), .int .u64 (sw p 3 : Nat), .int .i64 mn, .int .i64 mx, .int .i64 gp, .slice ka l.length kc], .int .i64 (nx : Nat), .pointer (some ⟨w.heap.size, 0, none⟩), .pointer (some ⟨w.heap.size + 1, 0, none⟩), .pointer (some ⟨w.heap.size + 1 + 1, 0, none⟩), .int .i64 0, undef, .pointer (some ⟨Bx, 0, none⟩), .pointer (some ⟨w.heap.size + 1, 0, none⟩), .int .i64 kd, .bool false, .bool false, undef, undef, undef, undef, undef, undef, .bool false, .bool false, undef, undef, undef, undef, .bool false, .bool false, undef, undef, undef, undef, .bool false, .bool false, undef, undef, undef, undef, undef, .bool false, .bool false, undef, undef, undef, undef, .pointer (some ⟨w.heap.size + 1, 8, none⟩), .slice ka l.length kc, .func (.func 125) #[] #[.pointer (some ⟨w.heap.size + 1 + 1 + 1, 0, none⟩)], .int .i64 (x : Nat), .agg ((kidAt l x).cells (kvs x)).toArray, undef, undef, undef, undef, undef], defers := [] })
    (fun x a' s A A' row hs hg hr => by obtain ⟨Bx, h1, h2⟩ := hs; exact ⟨Bx, turn_blk h1 hg hr, h2⟩) ?assign ?body ?done ?stop
  case hI =>
    rcases HKC.out with h0 | ⟨b, cur, h1, h2, h3, h4⟩
    · exact Or.inl h0
    · exact Or.inr ⟨b, cur, h1, (HB.out.block b (Nat.lt_of_lt_of_le h2 hB)).trans h3, h4⟩
  case own =>
    intro s A A' row hs hg hr
    exact ⟨⟨hs.1.1.turn hg hr, turn_blk hs.1.2.1 hg hr, turn_blk hs.1.2.2 hg hr⟩, hs.2.turn hB (by omega) hg hr⟩
  case assign =>
    intro l' pre x W K hi hK
    obtain ⟨xa, xm, xc, hxv⟩ := HKS.out x
    have HXV := Lib.hid hxv
    obtain ⟨W1, hW1⟩ : ∃ W1, W1 = W.alloc (.cells zero9 29) := ⟨_, rfl⟩
    have hk1 : W1.heap[W.heap.size]? = some (.cells zero9 29 (0, 0)) := by rw [hW1]; exact alloc_last W _
    have hlt1 : W.heap.size < W1.heap.size := lt_blkB hk1
    have hbel : Below W.heap.size W (W1.setRow W.heap.size ((kidAt l x).cells (kvs x)).toArray) := by rw [hW1]; exact below_setRow ((Below.refl _ _).alloc (Nat.le_refl _) _) (Nat.le_refl _) _
    have HK1 := Lib.hid hk1
    have HK := Lib.hid (hK _ (W1.setRow W.heap.size ((kidAt l x).cells (kvs x)).toArray) ((keeps_below hbel).from _) (ChG.below hbel (Nat.le_refl _)).t ⟨⟨hi.1.1.below hbel, blk_below hi.1.2.1 hbel, blk_below hi.1.2.2 hbel⟩, hi.2.trans (ChG.below hbel (Nat.le_trans hB hi.2.bel.size))⟩ ⟨W.heap.size, setRow_selfR hk1 _, rfl⟩)
    have HW1 := Lib.hid hW1
    have HN1 : Hid (((kidAt l x).cells (kvs x)).all (·.oneCell') = true) := Lib.hid (nd_one9 _ _ ⟨_, _, _, hxv⟩)
    have HSP : Hid ((spl zero9.toList 0 ((kidAt l x).cells (kvs x))).toArray = ((kidAt l x).cells (kvs x)).toArray) := Lib.hid (by rw [spl_all _ _ (by rw [Nd.cells_len]; rfl)])
    have HL9 : Hid (((kidAt l x).cells (kvs x)).length = 9) := Lib.hid (Nd.cells_len _ _)
    clear hk1 hbel hK hW1 hxv hi
    generalize (kidAt l x).cells (kvs x) = cs at *
    unfold zero9 at HW1
    gi_wp2_with (first | (rw [← HW1.out]; refine wpListIn_store_partC rfl 29 _ _ rfl rfl W.heap.size 0 cs rfl rfl 29 zero9 HK1.out (by rw [HL9.out]; exact nre_size) (by rw [HL9.out]; decide) HN1.out cs.toArray HSP.out ?_) | fail)
    exact HK.out
  case body =>
    rintro l' pre x a' W hl' ⟨lr, hlr⟩ ⟨⟨hg, hx0, hx2⟩, hc⟩ ⟨Bx, hBx, rfl⟩ hplt
    have hl0 : 0 < l.length := by omega
    have hm1 : pre.length * (fo l).W ≤ 1100 * 4000 := Nat.mul_le_mul (by omega) hW
    have hrl := rowB_lenA HOK.out hl0 (g, nx) pre
    have hrg := rowB_goodA HOK.out hl0 (g, nx) hnx pre
    have hnk : (kidAt l x).nn ≤ (fo l).nn := by
      unfold kidAt
      rw [List.getElem?_eq_getElem (by omega)]
      exact nn_at l _ _
    have hlk : (kidAt l x).Lt := by
      unfold kidAt
      rw [List.getElem?_eq_getElem (by omega)]
      exact lt_at l HLT.out _ _
    have hmul : (kidAt l x).nn * 8000000 ≤ (fo l).nn * 8000000 := Nat.mul_le_mul_right _ hnk
    have hkin : (kidAt l x).In W (fun b => b < B) (kvs x) := (HKI.out hl0 x).kept fun k hk _ _ => hc.bel.block k hk
    have HC := Lib.hid (HIH.out B gb st (kidAt l x) (kvs x) (rowB l pre (g, nx)).1 (rowB l pre (g, nx)).2 W (by omega) (kidAt_ok HOK.out hl0 x) hlk (by have h0 : (g, nx).1.length = g.length := rfl; rw [h0] at hrl; omega) hrg hg (Nat.le_trans hB hc.bel.size) hkin)
    have HSN : Hid (rowB l (pre ++ [x]) (g, nx) = (kidAt l x).B (rowB l pre (g, nx)).1 (rowB l pre (g, nx)).2) := Lib.hid (rowB_snoc l pre x (g, nx))
    have HL9 : Hid (((kidAt l x).cells (kvs x)).length = 9) := Lib.hid (Nd.cells_len _ _)
    have HX0 := Lib.hid hx0
    have HX2 := Lib.hid hx2
    have HBX := Lib.hid hBx
    have HCW := Lib.hid hc
    have c0 : W.cell? ⟨w.heap.size, 0, none⟩ = some (.pointer (some ⟨gb, 0, none⟩)) := (Lib.cell_of_heap hx0 0).trans rfl
    have c2 : W.cell? ⟨w.heap.size + 1 + 1, 0, none⟩ = some (.int .i64 ((rowB l pre (g, nx)).2 : Nat)) := (Lib.cell_of_heap hx2 0).trans rfl
    have hxl := lt_blkB hx2
    have hbl := lt_blkB hBx
    have h12 : 1 ≤ 3 - 1 - 1 := by decide
    unfold Nd.v PtQ at HC
    clear hg hx0 hx2 hc hBx hlr hrl hrg hnk hlk hmul hkin hm1
    generalize (rowB l pre (g, nx)).1 = g1 at *
    generalize (rowB l pre (g, nx)).2 = s1 at *
    generalize (kidAt l x).B g1 s1 = R1 at *
    generalize (kidAt l x).cells (kvs x) = cs at *
    gi_wp2_with (first | (refine wpListIn_load_part rfl 29 _ rfl Bx 0 rfl _ cs.toArray cs (0, 0) _ HBX.out (fun j u hu => by rw [Nat.zero_add]; simpa using hu) Tryz.underlying29 rfl (by rw [HL9.out]; exact nre_size) ?_) | (refine ⟨trivial, ?_⟩; gi_at_call 70; refine (CallsIn.inRound l' (callsIn_wide.2 HC.out)).mono ?_; rintro e w1 ⟨rfl, hg1, hc1⟩; have HG1 := Lib.hid hg1; have HC1 := Lib.hid hc1; have hx2' := HC1.out.blk HX2.out (by decide) (by decide); have HX2' := Lib.hid hx2'; have c2' : w1.cell? ⟨w.heap.size + 1 + 1, 0, none⟩ = some (.int .i64 (s1 : Nat)) := (Lib.cell_of_heap hx2' 0).trans rfl; have f2' : w1.frozen? ⟨w.heap.size + 1 + 1, 0, none⟩ = false := row_freeN hx2' 0; have hxl' := lt_blkB hx2'; clear hg1 hc1 hx2') | fail)
    show KeepsFrom _ _ _ ∧ ChT _ _ ∧ (GrAt B gb (rowB l (pre ++ [x]) (g, nx)).1 st _ ∧ _ ∧ _ = some (Obj.cells #[.int .i64 ((rowB l (pre ++ [x]) (g, nx)).2 : Nat)] 3 (0, 0))) ∧ _
    rw [HSN.out]
    refine ⟨(HC1.out.kp.trans (KeepsOthers.setCell _ _ _)).from _, HC1.out.t.trans (ChT.setInt HX2'.out _ _), ⟨HG1.out.setInt HX2'.out _ _, (Below.heap_setCell _ _ _ _ (by simp; omega)).trans (HC1.out.blk HX0.out (by decide) (by decide)), blk_set1i HX2'.out⟩, (HCW.out.trans HC1.out).setNew hB (by omega) _ _⟩
  case done =>
    rintro D ys W hD rfl ⟨⟨hg, hx0, hx2⟩, hc⟩ hK
    have hres := HRES.out
    subst hres
    have c2 : W.cell? ⟨w.heap.size + 1 + 1, 0, none⟩ = some (.int .i64 ((rowB l (downL l.length l.length) (g, nx)).2 : Nat)) := (Lib.cell_of_heap hx2 0).trans rfl
    have hxl := lt_blkB hx2
    have HGX := Lib.hid hg
    have HCX := Lib.hid hc
    have HKK := Lib.hid hK
    clear hg hx0 hx2 hc hK
    gi_wp2
    refine ⟨by simp, .inl ⟨_, _, rfl, run_takeDeferred HKK.out, ?_⟩⟩
    have hgr := grownBy_putObj' W D (.deferred none)
    have hr : ∀ r, some D = some r → W0.heap.size ≤ r ∧ ∃ o : Obj, W.heap[r]? = some o ∧ o.isCells = false := fun r e => by cases e; exact ⟨hD, _, HKK.out, rfl⟩
    exact ⟨_, results_tmp rfl _ _ _, rfl, HGX.out.turn hgr hr, HCX.out.turn hB (by omega) hgr hr⟩
  case stop =>
    rintro D c pre W _ _ h _
    exact h.elim
end Go.Proofs.YtcceiblmdjbhjaaGreatDoor
