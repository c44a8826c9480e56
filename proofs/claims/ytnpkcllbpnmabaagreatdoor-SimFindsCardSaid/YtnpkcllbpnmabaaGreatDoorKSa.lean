import Derived.Test.YtnpkcllbpnmabaaGreatDoorKPu
import Derived.Test.YtnpkcllbpnmabaaGreatDoorKNw
import Derived.Test.YtnpkcllbpnmabaaGreatDoorKLi
import Derived.Deep.OwnRows
import Derived.OwnWalk
import Derived.BigRegion
import Derived.Maps.AppendAt
namespace Go.Proofs.YtnpkcllbpnmabaaGreatDoor
set_option maxHeartbeats 8000000
set_option maxRecDepth 100000
open Go.RowKit
theorem wp_app_at {P : Program} (w : World) {o : Oper} {a : Act} {K : Act → World → Prop} {Q : Exit → Act → World → Prop} (s x : Operand) (t : TypeId)
  (ho : o.op = .call { callee := .builtin .append, args := #[s, x], argTypes := #[t, t] })
  (base : Nat) (e : TypeId) (i : TypeInfo) (z : Value) (size bytes : Nat) (ht : P.underlying t = some (.slice e)) (hi : P.info? e = some i) (hz : i.zero = some z)
  (hsize : i.size = size) (hby : i.bytes = bytes) (hzs : z.cells.size = size) (hsz : 0 < size)
  (v : Value) (n : Nat) (xs : List Value) (hs : a.eval s = v) (hown : w.ownsRow base e size v n xs)
  (ad : Addr) (m c : Nat) (news : List Value) (hx : a.eval x = .slice (some ad) m c) (hl : news.length = m * size) (hnews : ∀ j u, news[j]? = some u → w.cell? (ad.add j) = some u) (h1 : ∀ u ∈ news, u.oneCell' = true)
  (h63 : n + m ≤ maxLen) (hbytes : (n + m) * bytes ≤ 140737488355328) (hbase : base ≤ w.heap.size)
  (h : ∀ v' w', w'.ownsRow base e size v' (n + m) (xs ++ news) → w.grownBy w' v.ownBlock → (v'.ownBlock = v.ownBlock ∨ v'.ownBlock = some w.heap.size) → K (a.put o.dst v') w') : o.wp P a w K Q := by
 obtain ⟨v', w', hr, h2, h3, _, h5⟩ := run_append_own_at (P := P) w base t o.type e i z size bytes ht hi hz hsize hby hzs hsz v n xs hown ad m c news hl hnews h1 h63 hbytes hbase
 unfold Oper.wp execOp
 simp only [ho, resolve, invoke, builtin, Sem.run_bind, Sem.run_pure, Result.andThen_ok, List.map_toArray, List.map_cons, List.map_nil, hs, hx, hr]
 exact h v' w' h2 h3 h5
theorem th_parts : ∃ i z, Tryz.prog.info? 83 = some i ∧ i.zero = some z ∧ i.size = 2 ∧ i.bytes = 16 ∧ z.cells.size = 2 := by
 have h : (Tryz.prog.info? 83).map (fun i => (i.zero.map (·.cells.size), i.size, i.bytes)) = some (some 2, 2, 16) := by kernel_rfl
 obtain ⟨i, hi, hzz⟩ := Option.map_eq_some_iff.1 h
 simp only [Prod.mk.injEq] at hzz
 obtain ⟨z, hz, hs⟩ := Option.map_eq_some_iff.1 hzz.1
 exact ⟨i, z, hi, hz, hzz.2.1, hzz.2.2, hs⟩
def intZ (x : Nat) : Value := .int .i64 (x : Nat)
def thC (t : Nat × Nat) : List Value := [intZ t.1, intZ t.2]
theorem thC_one (t : Nat × Nat) : ∀ u ∈ thC t, u.oneCell' = true := fun u hu => by
 rcases List.mem_cons.1 hu with rfl | hu
 ·rfl
 ·rw [List.mem_singleton.1 hu]; rfl
theorem news_sm {X : World} {g : Nat} {cs : List Value} {T : TypeId} (h : X.heap[g]? = some (.cells cs.toArray T (0, 0))) : ∀ j u, cs[j]? = some u → X.cell? ((⟨g, 0, none⟩ : Addr).add j) = some u := fun j u hj => by
 rw [WideShapes.add_plain, Nat.zero_add, Lib.cell_of_heap h]
 simpa using hj
theorem own_some {w : World} {B s n : Nat} {T : TypeId} {v : Value} {xs : List Value} (h : w.ownsRow B T s v n xs) (hn : 0 < n) : ∃ b c, v = .slice (some ⟨b, 0, none⟩) n c := by
 obtain ⟨_, ⟨_, hz⟩ | ⟨b, c, _, rfl, _⟩⟩ := h
 ·omega
 ·exact ⟨_, _, rfl⟩
def rowT : Th → List Value
 | [] => []
 | t :: r => thC t ++ rowT r
theorem rowT_app : ∀ (A C : Th), rowT (A ++ C) = rowT A ++ rowT C
 | [], _ => rfl
 | t :: r, C => by show thC t ++ rowT (r ++ C) = _; rw [rowT_app r C, ← List.append_assoc]; rfl
theorem rowT_at : ∀ (A : Th) (k : Nat) (t : Nat × Nat), A[k]? = some t → (rowT A)[k * 2]? = some (intZ t.1) ∧ (rowT A)[k * 2 + 1]? = some (intZ t.2)
 | [], _, _, h => by simp at h
 | u :: r, 0, t, h => by
  have e : u = t := Option.some.inj h
  subst e
  exact ⟨rfl, rfl⟩
 | u :: r, k + 1, t, h => by
  have h2 := rowT_at r k t (by simpa using h)
  have e1 : (rowT (u :: r))[(k + 1) * 2]? = (rowT r)[k * 2]? := by
   show (thC u ++ rowT r)[(k + 1) * 2]? = _
   rw [List.getElem?_append_right (by show 2 ≤ _; omega)]
   show (rowT r)[(k + 1) * 2 - 2]? = _
   rw [show (k + 1) * 2 - 2 = k * 2 by omega]
  have e2 : (rowT (u :: r))[(k + 1) * 2 + 1]? = (rowT r)[k * 2 + 1]? := by
   show (thC u ++ rowT r)[(k + 1) * 2 + 1]? = _
   rw [List.getElem?_append_right (by show 2 ≤ _; omega)]
   show (rowT r)[(k + 1) * 2 + 1 - 2]? = _
   rw [show (k + 1) * 2 + 1 - 2 = k * 2 + 1 by omega]
  rw [e1, e2]
  exact h2
structure RunC (on : Bool) (gb n : Nat) (S : Value) (gen vis : Nat) (A : Th) (vA vC : Value) (cur : Array Value) : Prop where
 sz : cur.size = 4006
 g : cur[0]? = some (.pointer (some ⟨gb, 0, none⟩))
 s : cur[1]? = some S
 a : cur[2 + gen % 2]? = some vA
 c : cur[2 + (gen + 1) % 2]? = some vC
 t : cur[4]? = some (intZ gen)
 v : cur[4005]? = some (intZ vis)
 m : ∀ x, x < 4000 → ∃ q : Nat, cur[5 + x]? = some (intZ q) ∧ q ≤ gen ∧ (on = true → x < n → (q = gen ↔ (A.map Prod.fst).contains x = true))
theorem set_self {cur : Array Value} {i : Nat} {y : Value} (h : i < cur.size) : (cur.setIfInBounds i y)[i]? = some y := Array.getElem?_setIfInBounds_self_of_lt h
theorem set_other2 {cur : Array Value} {i j : Nat} {y : Value} (h : i ≠ j) : (cur.setIfInBounds i y)[j]? = cur[j]? := Array.getElem?_setIfInBounds_ne h
theorem RunC.turn {on : Bool} {gb n gen vis : Nat} {S vA vC : Value} {A : Th} {cur : Array Value} (h : RunC on gb n S gen vis A vA vC cur) (v' : Value) : RunC true gb n S (gen + 1) vis [] v' vA ((cur.setIfInBounds 4 (intZ (gen + 1))).setIfInBounds (2 + (gen + 1) % 2) v') := by
 have hz := h.sz
 refine ⟨by simpa using hz, ?_, ?_, ?_, ?_, ?_, ?_, fun x hx => ?_⟩
 ·rw [set_other2 (by omega), set_other2 (by omega)]; exact h.g
 ·rw [set_other2 (by omega), set_other2 (by omega)]; exact h.s
 ·rw [set_self (by simp; omega)]
 ·rw [show (gen + 1 + 1) % 2 = gen % 2 by omega, set_other2 (by omega), set_other2 (by omega)]; exact h.a
 ·rw [set_other2 (by omega), set_self (by omega)]
 ·rw [set_other2 (by omega), set_other2 (by omega)]; exact h.v
 ·obtain ⟨q, h1, h2, _⟩ := h.m x hx
  refine ⟨q, ?_, by omega, fun _ _ => ?_⟩
  ·rw [set_other2 (by omega), set_other2 (by omega)]; exact h1
  ·simp; omega
theorem contains_snocT (L : List Nat) (x y : Nat) : (L ++ [x]).contains y = (L.contains y || decide (y = x)) := by
 rw [Bool.eq_iff_iff]
 simp
theorem RunC.put {gb n gen vis : Nat} {S vA vC : Value} {A : Th} {cur : Array Value} (h : RunC true gb n S gen vis A vA vC cur) {x f : Nat} (hx : x < n) (_hn : n ≤ 4000) (v' : Value) : RunC true gb n S gen (vis + 1) (A ++ [(x, f)]) v' vC (((cur.setIfInBounds (5 + x) (intZ gen)).setIfInBounds 4005 (intZ (vis + 1))).setIfInBounds (2 + gen % 2) v') := by
 have hz := h.sz
 refine ⟨by simpa using hz, ?_, ?_, ?_, ?_, ?_, ?_, fun y hy => ?_⟩
 ·rw [set_other2 (by omega), set_other2 (by omega), set_other2 (by omega)]; exact h.g
 ·rw [set_other2 (by omega), set_other2 (by omega), set_other2 (by omega)]; exact h.s
 ·rw [set_self (by simp; omega)]
 ·rw [set_other2 (by omega), set_other2 (by omega), set_other2 (by omega)]; exact h.c
 ·rw [set_other2 (by omega), set_other2 (by omega), set_other2 (by omega)]; exact h.t
 ·rw [set_other2 (by omega), set_self (by simp; omega)]
 ·obtain ⟨q, h1, h2, h3⟩ := h.m y hy
  rw [List.map_append]
  show ∃ q : Nat, _ ∧ _ ∧ (_ → _ → (_ ↔ (A.map Prod.fst ++ [x]).contains y = true))
  rw [contains_snocT]
  by_cases hyx : y = x
  ·subst hyx
   refine ⟨gen, ?_, Nat.le_refl _, fun _ _ => by simp⟩
   rw [set_other2 (by omega), set_other2 (by omega), set_self (by omega)]
  ·refine ⟨q, ?_, h2, fun e hyn => ?_⟩
   ·rw [set_other2 (by omega), set_other2 (by omega), set_other2 (by omega)]; exact h1
   ·rw [h3 e hyn]
    simp [hyx]
theorem RunC.vis {on : Bool} {gb n gen vis : Nat} {S vA vC : Value} {A : Th} {cur : Array Value} (h : RunC on gb n S gen vis A vA vC cur) (k : Nat) : RunC on gb n S gen k A vA vC (cur.setIfInBounds 4005 (intZ k)) := by
 have hz := h.sz
 refine ⟨by simpa using hz, ?_, ?_, ?_, ?_, ?_, ?_, fun x hx => ?_⟩
 ·rw [set_other2 (by omega)]; exact h.g
 ·rw [set_other2 (by omega)]; exact h.s
 ·rw [set_other2 (by omega)]; exact h.a
 ·rw [set_other2 (by omega)]; exact h.c
 ·rw [set_other2 (by omega)]; exact h.t
 ·rw [set_self (by omega)]
 ·obtain ⟨q, h1, h2⟩ := h.m x hx
  exact ⟨q, by rw [set_other2 (by omega)]; exact h1, h2⟩
structure RunB (on : Bool) (B rb gb n : Nat) (S : Value) (gen vis : Nat) (A C : Th) (vA vC : Value) (w : World) : Prop where
 blk : ∃ cur : Array Value, w.heap[rb]? = some (.cells cur 78 (0, 0)) ∧ RunC on gb n S gen vis A vA vC cur
 ra : w.ownsRow B 83 2 vA A.length (rowT A)
 rc : w.ownsRow B 83 2 vC C.length (rowT C)
 ap : ∀ b, vA.ownBlock = some b → vC.ownBlock ≠ some b
 lo : B ≤ rb
 un : A.length + unm n (A.map Prod.fst) ≤ n
 cn : C.length ≤ n
 n4 : n ≤ 4000
structure ChSm (B : Nat) (w w' : World) : Prop where
 bel : Below B w w'
 oth : ∀ (i : Nat) (cs : Array Value) (T : TypeId) (z : Nat × Nat), T ≠ 78 → T ≠ 83 → w.heap[i]? = some (.cells cs T z) → w'.heap[i]? = w.heap[i]?
theorem ChSm.trans {B : Nat} {a b c : World} (h : ChSm B a b) (k : ChSm B b c) : ChSm B a c :=
 ⟨h.bel.trans k.bel, fun i cs T z h1 h2 h3 => (k.oth i cs T z h1 h2 ((h.oth i cs T z h1 h2 h3).trans h3)).trans (h.oth i cs T z h1 h2 h3)⟩
theorem ChSm.below {B : Nat} {w w' : World} (h : Below w.heap.size w w') (hB : B ≤ w.heap.size) : ChSm B w w' := ⟨h.mono hB, fun i _ _ _ _ _ h3 => h.block i (lt_blkB h3)⟩
theorem ChSm.blk {B : Nat} {w w' : World} (h : ChSm B w w') {i : Nat} {cs : Array Value} {T : TypeId} {z : Nat × Nat} (hb : w.heap[i]? = some (.cells cs T z)) (h1 : T ≠ 78) (h2 : T ≠ 83) : w'.heap[i]? = some (.cells cs T z) := (h.oth i cs T z h1 h2 hb).trans hb
theorem GrAt.chSm {B B' gb st : Nat} {g : List St} {w w' : World} (hg : GrAt B' gb g st w) (h : ChSm B w w') : GrAt B' gb g st w' := by
 obtain ⟨h0, u, h1, h2⟩ := hg
 exact ⟨h0, u, h.blk h1 (by decide) (by decide), own_same h2 fun b _ cs hc => (h.blk hc (by decide) (by decide)).trans hc.symm⟩
theorem RunB.below {on : Bool} {B rb gb n gen vis : Nat} {S vA vC : Value} {A C : Th} {w w' : World} (h : RunB on B rb gb n S gen vis A C vA vC w) (hb : Below w.heap.size w w') : RunB on B rb gb n S gen vis A C vA vC w' := by
 obtain ⟨cur, h1, h2⟩ := h.blk
 exact ⟨⟨cur, blk_below h1 hb, h2⟩, own_drop h.ra hb, own_drop h.rc hb, h.ap, h.lo, h.un, h.cn, h.n4⟩
theorem blk_setI {w : World} {b i : Nat} {cur : Array Value} {T : TypeId} {y : Value} (h : w.heap[b]? = some (.cells cur T (0, 0))) : (w.setCell ⟨b, i, none⟩ y).heap[b]? = some (.cells (cur.setIfInBounds i y) T (0, 0)) := by
 simp [World.setCell, Array.getElem?_modify, h]
theorem ChSm.set {B rb i : Nat} {w : World} {cur : Array Value} {y : Value} (h : w.heap[rb]? = some (.cells cur 78 (0, 0))) (hB : B ≤ rb) : ChSm B w (w.setCell ⟨rb, i, none⟩ y) :=
 ⟨(Below.refl _ _).setCell (p := ⟨rb, i, none⟩) hB _, fun k cs T z h1 _ h3 => Below.heap_setCell _ _ _ _ (by
  show k ≠ rb
  intro e
  subst e
  rw [h] at h3
  simp only [Option.some.injEq, Obj.cells.injEq] at h3
  exact h1 h3.2.1.symm)⟩
theorem own_emptied {w : World} {B s : Nat} {T : TypeId} {a : Option Addr} {m c : Nat} {xs : List Value} (h : w.ownsRow B T s (.slice a m c) m xs) : w.ownsRow B T s (.slice a 0 c) 0 [] := by
 obtain ⟨_, ⟨e, hz⟩ | ⟨g, cap, cu, e, hB, hg, hnc, hcm, hcs, htk⟩⟩ := h
 ·simp only [Value.slice.injEq] at e
  obtain ⟨rfl, _, rfl⟩ := e
  exact World.ownsRow_nil _ _ _ _
 ·simp only [Value.slice.injEq] at e
  obtain ⟨rfl, _, rfl⟩ := e
  exact ⟨by simp, Or.inr ⟨g, c, cu, rfl, hB, hg, Nat.zero_le _, hcm, hcs, by simp⟩⟩
theorem RunB.turn {on : Bool} {B rb gb n gen vis : Nat} {S vA : Value} {a : Option Addr} {c : Nat} {A C : Th} {w : World} (h : RunB on B rb gb n S gen vis A C vA (.slice a C.length c) w) :
  RunB true B rb gb n S (gen + 1) vis [] A (.slice a 0 c) vA ((w.setCell ⟨rb, 4, none⟩ (intZ (gen + 1))).setCell ⟨rb, 2 + (gen + 1) % 2, none⟩ (.slice a 0 c)) ∧ ChSm B w ((w.setCell ⟨rb, 4, none⟩ (intZ (gen + 1))).setCell ⟨rb, 2 + (gen + 1) % 2, none⟩ (.slice a 0 c)) := by
 obtain ⟨cur, h1, h2⟩ := h.blk
 have h3 := blk_setI (i := 4) (y := intZ (gen + 1)) h1
 have hob : (Value.slice a 0 c).ownBlock = (Value.slice a C.length c).ownBlock := by cases a <;> rfl
 have hrow : ∀ {v : Value} {m : Nat} {xs : List Value}, w.ownsRow B 83 2 v m xs → ((w.setCell ⟨rb, 4, none⟩ (intZ (gen + 1))).setCell ⟨rb, 2 + (gen + 1) % 2, none⟩ (.slice a 0 c)).ownsRow B 83 2 v m xs := fun hr => own_set (own_set hr h1 (by decide) _ _) h3 (by decide) _ _
 refine ⟨⟨⟨_, blk_setI h3, h2.turn _⟩, own_emptied (hrow h.rc), hrow h.ra, fun b hb => ?_, h.lo, ?_, ?_, h.n4⟩, (ChSm.set h1 h.lo).trans (ChSm.set h3 h.lo)⟩
 ·rw [hob] at hb
  exact fun e => h.ap b e hb
 ·rw [List.map_nil, unm_nil]; simp
 ·have := h.un; omega
theorem RunB.cells {on : Bool} {B rb gb n gen vis : Nat} {S vA vC : Value} {A C : Th} {w : World} (h : RunB on B rb gb n S gen vis A C vA vC w) :
  w.cell? ⟨rb, 0, none⟩ = some (.pointer (some ⟨gb, 0, none⟩)) ∧ w.cell? ⟨rb, 1, none⟩ = some S ∧ w.cell? ⟨rb, 2 + gen % 2, none⟩ = some vA ∧ w.cell? ⟨rb, 2 + (gen + 1) % 2, none⟩ = some vC ∧ w.cell? ⟨rb, 4, none⟩ = some (.int .i64 (gen : Nat)) ∧ w.cell? ⟨rb, 4005, none⟩ = some (.int .i64 (vis : Nat)) ∧ rb < w.heap.size ∧ ∀ i, w.frozen? ⟨rb, i, none⟩ = false := by
 obtain ⟨cur, h1, h2⟩ := h.blk
 exact ⟨(Lib.cell_of_heap h1 _).trans h2.g, (Lib.cell_of_heap h1 _).trans h2.s, (Lib.cell_of_heap h1 _).trans h2.a, (Lib.cell_of_heap h1 _).trans h2.c, (Lib.cell_of_heap h1 _).trans h2.t, (Lib.cell_of_heap h1 _).trans h2.v, lt_blkB h1, fun i => row_freeN h1 i⟩
theorem RunB.mark {B rb gb n gen vis : Nat} {S vA vC : Value} {A C : Th} {w : World} (h : RunB true B rb gb n S gen vis A C vA vC w) {x : Nat} (hx : x < n) : ∃ q : Nat, w.cell? ⟨rb, 5 + x, none⟩ = some (.int .i64 (q : Nat)) ∧ ((q : Int) == (gen : Int)) = (A.map Prod.fst).contains x := by
 obtain ⟨cur, h1, h2⟩ := h.blk
 obtain ⟨q, h3, h4, h5⟩ := h2.m x (Nat.lt_of_lt_of_le hx h.n4)
 refine ⟨q, (Lib.cell_of_heap h1 _).trans h3, ?_⟩
 rw [Bool.eq_iff_iff, ← h5 rfl hx]
 simp
 omega
theorem RunB.vis0 {on : Bool} {B rb gb n gen vis : Nat} {S vA vC : Value} {A C : Th} {w : World} (h : RunB on B rb gb n S gen vis A C vA vC w) (k : Nat) : RunB on B rb gb n S gen k A C vA vC (w.setCell ⟨rb, 4005, none⟩ (intZ k)) ∧ ChSm B w (w.setCell ⟨rb, 4005, none⟩ (intZ k)) := by
 obtain ⟨cur, h1, h2⟩ := h.blk
 exact ⟨⟨⟨_, blk_setI h1, h2.vis k⟩, own_set h.ra h1 (by decide) _ _, own_set h.rc h1 (by decide) _ _, h.ap, h.lo, h.un, h.cn, h.n4⟩, ChSm.set h1 h.lo⟩
theorem RunB.put {B rb gb n gen vis : Nat} {S vA vC : Value} {A C : Th} {w : World} (h : RunB true B rb gb n S gen vis A C vA vC w) {x f : Nat} (hx : x < n) (hc : (A.map Prod.fst).contains x = false) {b' cap' : Nat} {wm w1 : World}
  (hm : Below w.heap.size ((w.setCell ⟨rb, 5 + x, none⟩ (intZ gen)).setCell ⟨rb, 4005, none⟩ (intZ (vis + 1))) wm)
  (ho : w1.ownsRow B 83 2 (.slice (some ⟨b', 0, none⟩) (A.length + 1) cap') (A.length + 1) (rowT A ++ thC (x, f))) (hg : wm.grownBy w1 vA.ownBlock) (hb : vA.ownBlock = some b' ∨ b' = wm.heap.size) (hB : B ≤ w.heap.size) :
  RunB true B rb gb n S gen (vis + 1) (A ++ [(x, f)]) C (.slice (some ⟨b', 0, none⟩) (A.length + 1) cap') vC (w1.setCell ⟨rb, 2 + gen % 2, none⟩ (.slice (some ⟨b', 0, none⟩) (A.length + 1) cap')) ∧ ChSm B w (w1.setCell ⟨rb, 2 + gen % 2, none⟩ (.slice (some ⟨b', 0, none⟩) (A.length + 1) cap')) := by
 obtain ⟨cur, h1, h2⟩ := h.blk
 have h3 := blk_setI (i := 5 + x) (y := intZ gen) h1
 have h4 := blk_setI (i := 4005) (y := intZ (vis + 1)) h3
 have hlt := lt_blkB h1
 have hz : ((w.setCell ⟨rb, 5 + x, none⟩ (intZ gen)).setCell ⟨rb, 4005, none⟩ (intZ (vis + 1))).heap.size = w.heap.size := by simp
 have hc2 : ChSm B w ((w.setCell ⟨rb, 5 + x, none⟩ (intZ gen)).setCell ⟨rb, 4005, none⟩ (intZ (vis + 1))) := (ChSm.set h1 h.lo).trans (ChSm.set h3 h.lo)
 have hcm : ChSm B w wm := hc2.trans (ChSm.below (by rw [hz]; exact hm) (by rw [hz]; exact hB))
 have h4m : wm.heap[rb]? = some (.cells ((cur.setIfInBounds (5 + x) (intZ gen)).setIfInBounds 4005 (intZ (vis + 1))) 78 (0, 0)) := (hm.block rb hlt).trans h4
 have hwm : w.heap.size ≤ wm.heap.size := hcm.bel.size
 have hvr : vA.ownBlock ≠ some rb := own_neK h.ra h1 (by decide)
 have h4w : w1.heap[rb]? = some (.cells ((cur.setIfInBounds (5 + x) (intZ gen)).setIfInBounds 4005 (intZ (vis + 1))) 78 (0, 0)) := (hg.block rb (by omega) (fun e => hvr e.symm)).trans h4m
 have hrcm : wm.ownsRow B 83 2 vC C.length (rowT C) := own_drop (own_set (own_set h.rc h1 (by decide) _ _) h3 (by decide) _ _) (by rw [hz]; exact hm)
 have hrc1 : w1.ownsRow B 83 2 vC C.length (rowT C) := own_same hrcm fun b hvc cs hcs => hg.block b (lt_blkB hcs) (fun e => h.ap b e.symm hvc)
 refine ⟨⟨⟨_, blk_setI h4w, h2.put hx h.n4 _⟩, ?_, own_set hrc1 h4w (by decide) _ _, fun b hbb => ?_, h.lo, ?_, h.cn, h.n4⟩, ?_, fun i cs T z t1 t2 t3 => ?_⟩
 ·rw [List.length_append, List.length_singleton, rowT_app]
  exact own_set ho h4w (by decide) _ _
 ·have e : b' = b := Option.some.inj hbb
  rw [← e]
  rcases hb with e2 | e2
  ·exact h.ap b' e2
  ·intro e3
   have := (hrcm.lt b' e3).2
   omega
 ·have := unm_add n (A.map Prod.fst) x hx hc
  have := h.un
  rw [List.length_append, List.length_singleton, List.map_append]
  show _ + unm n (A.map Prod.fst ++ [x]) ≤ n
  omega
 ·exact ((hcm.bel).grown hg (Nat.le_trans hB hwm) (fun k hk => (h.ra.lt k hk).1)).setCell (p := ⟨rb, 2 + gen % 2, none⟩) h.lo _
 ·have t4 := hcm.blk t3 t1 t2
  have hir : i ≠ rb := fun e => by
   subst e
   rw [h1] at t3
   simp only [Option.some.injEq, Obj.cells.injEq] at t3
   exact t1 t3.2.1.symm
  rw [Below.heap_setCell _ _ _ _ hir, hg.block i (lt_blkB t4) (fun e => own_neK h.ra t3 t2 e.symm), t4, t3]
structure CapS (b4 b6 rb f : Nat) (w : World) : Prop where
 r : w.heap[b4]? = some (.cells #[.pointer (some ⟨rb, 0, none⟩)] 43 (0, 0))
 f : w.heap[b6]? = some (.cells #[.int .i64 (f : Nat)] 3 (0, 0))
theorem CapS.below {b4 b6 rb f : Nat} {w w' : World} (h : CapS b4 b6 rb f w) (hb : Below w.heap.size w w') : CapS b4 b6 rb f w' := ⟨blk_below h.r hb, blk_below h.f hb⟩
theorem CapS.chSm {B b4 b6 rb f : Nat} {w w' : World} (h : CapS b4 b6 rb f w) (hc : ChSm B w w') : CapS b4 b6 rb f w' := ⟨hc.blk h.r (by decide) (by decide), hc.blk h.f (by decide) (by decide)⟩
theorem CapS.cells {b4 b6 rb f : Nat} {w : World} (h : CapS b4 b6 rb f w) : w.cell? ⟨b4, 0, none⟩ = some (.pointer (some ⟨rb, 0, none⟩)) ∧ w.cell? ⟨b6, 0, none⟩ = some (.int .i64 (f : Nat)) ∧ b4 < w.heap.size ∧ b6 < w.heap.size :=
 ⟨(Lib.cell_of_heap h.r 0).trans rfl, (Lib.cell_of_heap h.f 0).trans rfl, lt_blkB h.r, lt_blkB h.f⟩
structure PutSm (B rb b4 b6 p m x f : Nat) (xs : List Value) (vA : Value) (W : World) (d11 d12 d16 : Bool) (u11 u12 : Value) (X : World) : Prop where
 cap : CapS b4 b6 rb f X
 rz : rb < X.heap.size
 pre : d12 = false → Below W.heap.size W X
 no : d16 = true → d12 = true
 lit : d11 = true → d12 = false → ∃ g, u11 = .slice (some ⟨g, 0, none⟩) 1 1 ∧ X.heap[g]? = some (.cells #[.int .i64 (x : Nat), .int .i64 (f : Nat)] 83 (0, 0))
 new : d12 = true → ∃ wm w1 b' cap', u12 = .slice (some ⟨b', 0, none⟩) (m + 1) cap' ∧ Below W.heap.size W wm ∧ w1.ownsRow B 83 2 (.slice (some ⟨b', 0, none⟩) (m + 1) cap') (m + 1) (xs ++ thC (x, f)) ∧ wm.grownBy w1 vA.ownBlock ∧ (vA.ownBlock = some b' ∨ b' = wm.heap.size) ∧ X = (if d16 = true then w1.setCell ⟨rb, 2 + p, none⟩ u12 else w1)
theorem put_in (B rb gb n gen vis b4 b6 f x : Nat) (S vA vC : Value) (A C : Th) (w : World) (h : RunB true B rb gb n S gen vis A C vA vC w) (hc : CapS b4 b6 rb f w) (hx : x < n) (hi : (A.map Prod.fst).contains x = true) :
  Calls Tryz.prog 43 #[.int .i64 (x : Nat), .pointer (some ⟨b4, 0, none⟩), .pointer (some ⟨b6, 0, none⟩)] w fun r w' => r = .returned (.bool false) ∧ Below w.heap.size w w' := by
 obtain ⟨_, _, _, _, c4, _, cz, _⟩ := h.cells
 obtain ⟨k4, k6, z4, z6⟩ := hc.cells
 obtain ⟨q, cq, hq⟩ := h.mark hx
 have hx4 : (x : Int) < 4000 := by have := h.n4; omega
 have hx0 : (0 : Int) ≤ (x : Int) := by omega
 rw [hi] at hq
 clear h hc hi
 go_enter Tryz.func43, Tryz.ntmps43
 go_wp2
 go_region
 all_goals
  go_wp2
  go_ret
  exact ⟨rfl, (Below.refl _ _).drew⟩
def PutSQ (B rb gb n gen vis f x : Nat) (S vC : Value) (A C : Th) (w : World) (r : Ending) (w' : World) : Prop := r = .returned (.bool true) ∧ ∃ vA', RunB true B rb gb n S gen (vis + 1) (A ++ [(x, f)]) C vA' vC w' ∧ ChSm B w w'
set_option maxHeartbeats 16000000 in
theorem put_new (B rb gb n gen vis b4 b6 f x : Nat) (S vA vC : Value) (A C : Th) (w : World) (h : RunB true B rb gb n S gen vis A C vA vC w) (hc : CapS b4 b6 rb f w) (hx : x < n) (hi : (A.map Prod.fst).contains x = false) (hB : B ≤ w.heap.size) (hv : vis ≤ 4611686018427387904) :
  Calls Tryz.prog 43 #[.int .i64 (x : Nat), .pointer (some ⟨b4, 0, none⟩), .pointer (some ⟨b6, 0, none⟩)] w (PutSQ B rb gb n gen vis f x S vC A C w) := by
 obtain ⟨i0, z0, hi0, hz0, hz1, hz2, hz3⟩ := th_parts
 have hA : A.length ≤ 4000 := by have := h.un; have := h.n4; omega
 obtain ⟨aA, cA, rfl⟩ := own_shapeR h.ra
 obtain ⟨m, hm⟩ : ∃ m, m = A.length := ⟨_, rfl⟩
 obtain ⟨p, hp⟩ : ∃ p, p = gen % 2 := ⟨_, rfl⟩
 have HPUT : Hid (∀ (b' cap' : Nat) (wm w1 : World), Below w.heap.size ((w.setCell ⟨rb, 5 + x, none⟩ (intZ gen)).setCell ⟨rb, 4005, none⟩ (intZ (vis + 1))) wm → w1.ownsRow B 83 2 (.slice (some ⟨b', 0, none⟩) (m + 1) cap') (m + 1) (rowT A ++ thC (x, f)) → wm.grownBy w1 (Value.slice aA m cA).ownBlock → ((Value.slice aA m cA).ownBlock = some b' ∨ b' = wm.heap.size) → RunB true B rb gb n S gen (vis + 1) (A ++ [(x, f)]) C (.slice (some ⟨b', 0, none⟩) (m + 1) cap') vC (w1.setCell ⟨rb, 2 + p, none⟩ (.slice (some ⟨b', 0, none⟩) (m + 1) cap')) ∧ ChSm B w (w1.setCell ⟨rb, 2 + p, none⟩ (.slice (some ⟨b', 0, none⟩) (m + 1) cap'))) := Lib.hid (fun b' cap' wm w1 h1 h2 h3 h4 => by
  rw [hm] at h2 h3 h4 ⊢
  rw [hp]
  exact h.put hx hi h1 h2 h3 h4 hB)
 obtain ⟨_, _, c2, _, c4, c5, cz, cf⟩ := h.cells
 obtain ⟨k4, k6, z4, z6⟩ := hc.cells
 obtain ⟨q, cq, hq⟩ := h.mark hx
 rw [hi] at hq
 rw [← hp] at c2
 have hx4 : (x : Int) < 4000 := by have := h.n4; omega
 have hx0 : (0 : Int) ≤ (x : Int) := by omega
 have hr0 : (gen : Int).tmod 2 = (p : Int) := by rw [Int.tmod_eq_emod_of_nonneg (by omega)]; omega
 have p2 : (p : Int) < 2 := by omega
 have hv1 : (vis : Int) + 1 ≤ 9223372036854775807 := by omega
 have hv0 : -9223372036854775808 ≤ (vis : Int) + 1 := by omega
 have f5 := cf (5 + x)
 have f6 := cf 4005
 have hrow : w.ownsRow B 83 2 (.slice aA m cA) m (rowT A) := by rw [hm]; exact h.ra
 rw [← hm] at c2 hA
 obtain ⟨cur, hcur, hC⟩ := h.blk
 have HCUR := Lib.hid hcur
 have HROW := Lib.hid hrow
 have HCAP := Lib.hid hc
 have HC4 := Lib.hid c4
 have HC5 := Lib.hid c5
 have HC2 := Lib.hid c2
 have h4r : b4 ≠ rb := fun e => by have := hc.r; rw [e, hcur] at this; simp at this
 have h6r : b6 ≠ rb := fun e => by have := hc.f; rw [e, hcur] at this; simp at this
 unfold PutSQ
 clear h hc hi hrow hm hcur hC hp
 go_enter Tryz.func43, Tryz.ntmps43
 go_wp2
 go_region
 go_upto_region 3 with fail
 have W4 : w.drew.drew.cell? ⟨rb, 4, none⟩ = some (.int .i64 (gen : Nat)) := c4
 have WQ : w.drew.drew.cell? ⟨rb, 5 + x, none⟩ = some (.int .i64 (q : Nat)) := cq
 have WF : w.drew.drew.frozen? ⟨rb, 5 + x, none⟩ = false := f5
 have WK : w.drew.drew.cell? ⟨b4, 0, none⟩ = some (.pointer (some ⟨rb, 0, none⟩)) := k4
 have WZ : rb < w.drew.drew.heap.size := cz
 have WZ4 : b4 < w.drew.drew.heap.size := z4
 refine Reg.wp_region_sto (fun L u X => X = if L 9 = true then w.drew.drew.setCell ⟨rb, 5 + x, none⟩ (.int .i64 (gen : Nat)) else w.drew.drew) (fun j => ([some (.pointer (some ⟨rb, 0, none⟩)), some (.int .i64 (x : Nat)), some (.pointer (some ⟨rb, 0, none⟩)), some (.pointer (some ⟨rb, 0, none⟩)), some (.pointer (some ⟨rb, 4, none⟩)), some (.int .i64 (gen : Nat)), some (.pointer (some ⟨rb, 0, none⟩)), some (.pointer (some ⟨rb, 5, none⟩)), some (.pointer (some ⟨rb, 5 + x, none⟩)), none] : List (Option Value)).getD j none) (by kernel_rfl) (by kernel_rfl) (by kernel_rfl) (by kernel_rfl) ?rs0 ?rsE ?rsZ
 case rs0 => exact (if_neg (by decide)).symm
 case rsE =>
  refine Reg.EachG.plain rfl (fun L u T X hL hz hS hk K hK => ?_) ?_
  ·skip
   have g1 := hk.old 1 (by kernel_rfl) rfl
   have hS0 := hS
   rw [hz 9 (by kernel_rfl), if_neg (by decide)] at hS0
   have hK := hK _ X (by rw [Reg.upd_ne _ _ (by decide)]; exact hS) (fun _ hx => Option.some.inj hx)
   subst hS0
   clear hk hz hL hS
   go_simp
   exact hK
  refine Reg.EachG.plain rfl (fun L u T X hL hz hS hk K hK => ?_) ?_
  ·skip
   have g0 := hk.old 0 (by kernel_rfl) rfl
   have hS0 := hS
   rw [hz 9 (by kernel_rfl), if_neg (by decide)] at hS0
   have hK := hK _ X (by rw [Reg.upd_ne _ _ (by decide)]; exact hS) (fun _ hx => Option.some.inj hx)
   subst hS0
   clear hk hz hL hS
   go_simp
   exact hK
  refine Reg.EachG.plain rfl (fun L u T X hL hz hS hk K hK => ?_) ?_
  ·skip
   have g1 := hk.old 1 (by kernel_rfl) rfl
   have hS0 := hS
   rw [hz 9 (by kernel_rfl), if_neg (by decide)] at hS0
   have hK := hK _ X (by rw [Reg.upd_ne _ _ (by decide)]; exact hS) (fun _ hx => Option.some.inj hx)
   subst hS0
   clear hk hz hL hS
   go_simp
   exact hK
  refine Reg.EachG.plain rfl (fun L u T X hL hz hS hk K hK => ?_) ?_
  ·skip
   have g19 := hk.val 2 19 (by kernel_rfl) (by kernel_rfl) rfl
   have hS0 := hS
   rw [hz 9 (by kernel_rfl), if_neg (by decide)] at hS0
   have hK := hK _ X (by rw [Reg.upd_ne _ _ (by decide)]; exact hS) (fun _ hx => Option.some.inj hx)
   subst hS0
   clear hk hz hL hS
   go_simp
   exact hK
  refine Reg.EachG.plain rfl (fun L u T X hL hz hS hk K hK => ?_) ?_
  ·skip
   have g20 := hk.val 3 20 (by kernel_rfl) (by kernel_rfl) rfl
   have hS0 := hS
   rw [hz 9 (by kernel_rfl), if_neg (by decide)] at hS0
   have hK := hK _ X (by rw [Reg.upd_ne _ _ (by decide)]; exact hS) (fun _ hx => Option.some.inj hx)
   subst hS0
   clear hk hz hL hS
   go_simp
   exact hK
  refine Reg.EachG.plain rfl (fun L u T X hL hz hS hk K hK => ?_) ?_
  ·skip
   have g21 := hk.val 4 21 (by kernel_rfl) (by kernel_rfl) rfl
   have hS0 := hS
   rw [hz 9 (by kernel_rfl), if_neg (by decide)] at hS0
   have hK := hK _ X (by rw [Reg.upd_ne _ _ (by decide)]; exact hS) (fun _ hx => Option.some.inj hx)
   subst hS0
   clear hk hz hL hS
   go_simp
   exact hK
  refine Reg.EachG.plain rfl (fun L u T X hL hz hS hk K hK => ?_) ?_
  ·skip
   have g17 := hk.val 0 17 (by kernel_rfl) (by kernel_rfl) rfl
   have hS0 := hS
   rw [hz 9 (by kernel_rfl), if_neg (by decide)] at hS0
   have hK := hK _ X (by rw [Reg.upd_ne _ _ (by decide)]; exact hS) (fun _ hx => Option.some.inj hx)
   subst hS0
   clear hk hz hL hS
   go_simp
   exact hK
  refine Reg.EachG.plain rfl (fun L u T X hL hz hS hk K hK => ?_) ?_
  ·skip
   have g23 := hk.val 6 23 (by kernel_rfl) (by kernel_rfl) rfl
   have hS0 := hS
   rw [hz 9 (by kernel_rfl), if_neg (by decide)] at hS0
   have hK := hK _ X (by rw [Reg.upd_ne _ _ (by decide)]; exact hS) (fun _ hx => Option.some.inj hx)
   subst hS0
   clear hk hz hL hS
   go_simp
   exact hK
  refine Reg.EachG.plain rfl (fun L u T X hL hz hS hk K hK => ?_) ?_
  ·skip
   have g18 := hk.val 1 18 (by kernel_rfl) (by kernel_rfl) rfl
   have g24 := hk.val 7 24 (by kernel_rfl) (by kernel_rfl) rfl
   have hS0 := hS
   rw [hz 9 (by kernel_rfl), if_neg (by decide)] at hS0
   have hK := hK _ X (by rw [Reg.upd_ne _ _ (by decide)]; exact hS) (fun _ hx => Option.some.inj hx)
   subst hS0
   clear hk hz hL hS
   go_simp
   exact hK
  refine Reg.EachG.plain rfl (fun L u T X hL hz hS hk K hK => ?_) ?_
  ·skip
   have g22 := hk.val 5 22 (by kernel_rfl) (by kernel_rfl) rfl
   have g25 := hk.val 8 25 (by kernel_rfl) (by kernel_rfl) rfl
   rw [hL, if_neg (by decide)] at hS
   subst hS
   have hK := hK undef (w.drew.drew.setCell ⟨rb, 5 + x, none⟩ (.int .i64 (gen : Nat))) (by rw [Reg.upd_same, if_pos rfl]) (fun _ hx => by cases hx)
   clear hk hz hL
   go_simp
   exact hK
  exact Reg.EachG.nil
 case rsZ =>
  intro L u w1 hL hS hI
  have e0 := hI 0 (by decide) _ rfl
  have e1 := hI 1 (by decide) _ rfl
  have e2 := hI 2 (by decide) _ rfl
  have e3 := hI 3 (by decide) _ rfl
  have e4 := hI 4 (by decide) _ rfl
  have e5 := hI 5 (by decide) _ rfl
  have e6 := hI 6 (by decide) _ rfl
  have e7 := hI 7 (by decide) _ rfl
  have e8 := hI 8 (by decide) _ rfl
  clear hI
  simp only [Reg.putAll, Act.put, List.setIfInBounds_toArray, List.set_cons_succ, List.set_cons_zero, Nat.zero_add, Nat.reduceAdd, e0, e1, e2, e3, e4, e5, e6, e7, e8]
  clear e0 e1 e2 e3 e4 e5 e6 e7 e8
  rw [hL 9 (by decide), if_pos rfl] at hS
  have HC1 : Hid (CapS b4 b6 rb f w1) := Lib.hid (by rw [hS]; exact ⟨(Below.heap_setCell _ _ _ _ h4r).trans HCAP.out.r, (Below.heap_setCell _ _ _ _ h6r).trans HCAP.out.f⟩)
  have HR1 : Hid (w1.ownsRow B 83 2 (.slice aA m cA) m (rowT A)) := Lib.hid (by rw [hS]; exact own_set HROW.out HCUR.out (by decide) _ _)
  have hcu1 : w1.heap[rb]? = some (.cells (cur.setIfInBounds (5 + x) (.int .i64 (gen : Nat))) 78 (0, 0)) := by rw [hS]; exact blk_setI (w := w.drew.drew) HCUR.out
  have hsz1 : w1.heap.size = w.heap.size := by rw [hS]; simp
  have y4 : w1.cell? ⟨rb, 4, none⟩ = some (.int .i64 (gen : Nat)) := by rw [hS]; exact (World.cell?_setCell_other _ _ _ _ (by simp <;> omega)).trans W4
  have y5 : w1.cell? ⟨rb, 4005, none⟩ = some (.int .i64 (vis : Nat)) := by rw [hS]; exact (World.cell?_setCell_other _ _ _ _ (by simp <;> omega)).trans HC5.out
  have y2 : w1.cell? ⟨rb, 2 + p, none⟩ = some (.slice aA m cA) := by rw [hS]; exact (World.cell?_setCell_other _ _ _ _ (by simp <;> omega)).trans HC2.out
  have yf : w1.frozen? ⟨rb, 4005, none⟩ = false := by rw [hS]; simp [f6]
  obtain ⟨y0, y1, y6, y7⟩ := HC1.out.cells
  have yz : rb < w1.heap.size := by rw [hsz1]; exact cz
  have h4r' : rb ≠ b4 := fun e => h4r e.symm
  have HS1 := Lib.hid hS
  have HCU1 := Lib.hid hcu1
  clear hS hL u L W4 WQ WF WK WZ WZ4 c2 c4 c5 cf k4 k6 f5 f6 cq hq HROW HCAP HC4 HC5 HC2 HCUR hcu1
  go_upto_region 6 with fail
  obtain ⟨W2, hW2⟩ : ∃ W2, W2 = w1.setCell ⟨rb, 4005, none⟩ (.int .i64 ((vis : Int) + 1)) := ⟨_, rfl⟩
  rw [← hW2]
  have HCU2 : Hid (W2.drew.heap[rb]? = some (.cells ((cur.setIfInBounds (5 + x) (.int .i64 (gen : Nat))).setIfInBounds 4005 (.int .i64 ((vis : Int) + 1))) 78 (0, 0))) := Lib.hid (by rw [hW2]; exact blk_setI (w := w1) HCU1.out)
  have HC2 : Hid (CapS b4 b6 rb f W2.drew) := Lib.hid (by rw [hW2]; exact ⟨(Below.heap_setCell _ _ _ _ h4r).trans HC1.out.r, (Below.heap_setCell _ _ _ _ h6r).trans HC1.out.f⟩)
  have HR2 : Hid (W2.drew.ownsRow B 83 2 (.slice aA m cA) m (rowT A)) := Lib.hid (by rw [hW2]; exact own_set HR1.out HCU1.out (by decide) _ _)
  have hsz2 : W2.drew.heap.size = w.heap.size := by rw [hW2, ← hsz1]; show (w1.setCell _ _).heap.size = _; simp
  have x2 : W2.drew.cell? ⟨rb, 2 + p, none⟩ = some (.slice aA m cA) := by rw [hW2]; exact (World.cell?_setCell_other _ _ _ _ (by simp <;> omega)).trans y2
  have HX2 : Hid (((cur.setIfInBounds (5 + x) (.int .i64 (gen : Nat))).setIfInBounds 4005 (.int .i64 ((vis : Int) + 1)))[2 + p]? = some (.slice aA m cA)) := Lib.hid ((Lib.cell_of_heap HCU2.out _).symm.trans x2)
  have HVR : Hid ((Value.slice aA m cA).ownBlock ≠ some rb) := Lib.hid (own_neK HR2.out HCU2.out (by decide))
  have HW2 := Lib.hid hW2
  have z2 : rb < W2.drew.heap.size := by omega
  have HPRE : Hid (∀ X, Below W2.drew.heap.size W2.drew X → X.heap[rb]? = some (.cells ((cur.setIfInBounds (5 + x) (.int .i64 (gen : Nat))).setIfInBounds 4005 (.int .i64 ((vis : Int) + 1))) 78 (0, 0))) := Lib.hid (fun X hX => blk_below HCU2.out hX)
  clear hW2 y0 y1 y2 y4 y5 y6 y7 yf yz x2 HC1 HR1 HCU1
  generalize (cur.setIfInBounds (5 + x) (.int .i64 (gen : Nat))).setIfInBounds 4005 (.int .i64 ((vis : Int) + 1)) = cu2 at *
  refine Reg.wp_region_sto (fun L u X => PutSm B rb b4 b6 p m x f (rowT A) (.slice aA m cA) W2.drew (L 11) (L 12) (L 16) (u 11) (u 12) X) (fun j => ([some (.pointer (some ⟨rb, 0, none⟩)), some (.int .i64 (p : Nat)), some (.pointer (some ⟨rb, 0, none⟩)), some (.int .i64 (p : Nat)), some (.pointer (some ⟨rb, 0, none⟩)), some (.pointer (some ⟨rb, 2, none⟩)), some (.pointer (some ⟨rb, 2 + p, none⟩)), some (.slice aA m cA), some (.int .i64 (x : Nat)), some (.int .i64 (f : Nat)), some (.agg #[.int .i64 (x : Nat), .int .i64 (f : Nat)]), none, none, some (.pointer (some ⟨rb, 0, none⟩)), some (.pointer (some ⟨rb, 2, none⟩)), some (.pointer (some ⟨rb, 2 + p, none⟩)), none] : List (Option Value)).getD j none) (by kernel_rfl) (by kernel_rfl) (by kernel_rfl) (by kernel_rfl) ?rs0 ?rsE ?rsZ
  case rs0 => exact ⟨HC2.out, z2, fun _ => Below.refl _ _, fun h => (by cases h), fun h => (by cases h), fun h => (by cases h)⟩
  case rsE =>
   refine Reg.EachG.plain rfl (fun L u T X hL hz hS hk K hK => ?_) ?_
   ·skip
    have g1 := hk.old 1 (by kernel_rfl) rfl
    obtain ⟨k4, k6, z4, z6⟩ := hS.cap.cells
    have hK := hK _ X hS (fun _ hx => Option.some.inj hx)
    clear hk hz hL hS
    go_simp
    exact hK
   refine Reg.EachG.plain rfl (fun L u T X hL hz hS hk K hK => ?_) ?_
   ·skip
    have g5 := hk.old 5 (by kernel_rfl) rfl
    have hK := hK _ X hS (fun _ hx => Option.some.inj hx)
    clear hk hz hL
    go_simp
    exact hK
   refine Reg.EachG.plain rfl (fun L u T X hL hz hS hk K hK => ?_) ?_
   ·skip
    have g1 := hk.old 1 (by kernel_rfl) rfl
    obtain ⟨k4, k6, z4, z6⟩ := hS.cap.cells
    have hK := hK _ X hS (fun _ hx => Option.some.inj hx)
    clear hk hz hL hS
    go_simp
    exact hK
   refine Reg.EachG.plain rfl (fun L u T X hL hz hS hk K hK => ?_) ?_
   ·skip
    have g5 := hk.old 5 (by kernel_rfl) rfl
    have hK := hK _ X hS (fun _ hx => Option.some.inj hx)
    clear hk hz hL
    go_simp
    exact hK
   refine Reg.EachG.plain rfl (fun L u T X hL hz hS hk K hK => ?_) ?_
   ·skip
    have g40 := hk.val 2 40 (by kernel_rfl) (by kernel_rfl) rfl
    have hrz := hS.rz
    have hK := hK _ X hS (fun _ hx => Option.some.inj hx)
    clear hk hz hL hS
    go_simp
    exact hK
   refine Reg.EachG.plain rfl (fun L u T X hL hz hS hk K hK => ?_) ?_
   ·skip
    have g42 := hk.val 4 42 (by kernel_rfl) (by kernel_rfl) rfl
    have hrz := hS.rz
    have hK := hK _ X hS (fun _ hx => Option.some.inj hx)
    clear hk hz hL hS
    go_simp
    exact hK
   refine Reg.EachG.plain rfl (fun L u T X hL hz hS hk K hK => ?_) ?_
   ·skip
    have g41 := hk.val 3 41 (by kernel_rfl) (by kernel_rfl) rfl
    have g43 := hk.val 5 43 (by kernel_rfl) (by kernel_rfl) rfl
    have hrz := hS.rz
    have hK := hK _ X hS (fun _ hx => Option.some.inj hx)
    clear hk hz hL hS
    go_simp
    exact hK
   refine Reg.EachG.plain rfl (fun L u T X hL hz hS hk K hK => ?_) ?_
   ·skip
    have g44 := hk.val 6 44 (by kernel_rfl) (by kernel_rfl) rfl
    have hx2 : X.cell? ⟨rb, 2 + p, none⟩ = some (.slice aA m cA) := (Lib.cell_of_heap (HPRE.out X (hS.pre (hz 12 (by kernel_rfl)))) _).trans HX2.out
    have hrz := hS.rz
    have hK := hK _ X hS (fun _ hx => Option.some.inj hx)
    clear hk hz hL hS
    go_simp
    exact hK
   refine Reg.EachG.plain rfl (fun L u T X hL hz hS hk K hK => ?_) ?_
   ·skip
    have g0 := hk.old 0 (by kernel_rfl) rfl
    have hK := hK _ X hS (fun _ hx => Option.some.inj hx)
    clear hk hz hL
    go_simp
    exact hK
   refine Reg.EachG.plain rfl (fun L u T X hL hz hS hk K hK => ?_) ?_
   ·skip
    have g2 := hk.old 2 (by kernel_rfl) rfl
    obtain ⟨k4, k6, z4, z6⟩ := hS.cap.cells
    have hK := hK _ X hS (fun _ hx => Option.some.inj hx)
    clear hk hz hL hS
    go_simp
    exact hK
   refine Reg.EachG.plain rfl (fun L u T X hL hz hS hk K hK => ?_) ?_
   ·skip
    have g46 := hk.val 8 46 (by kernel_rfl) (by kernel_rfl) rfl
    have g47 := hk.val 9 47 (by kernel_rfl) (by kernel_rfl) rfl
    have hK := hK _ X hS (fun _ hx => Option.some.inj hx)
    clear hk hz hL
    go_simp
    exact hK
   refine Reg.EachG.plain rfl (fun L u T X hL hz hS hk K hK => ?_) ?_
   ·skip
    have g48 := hk.val 10 48 (by kernel_rfl) (by kernel_rfl) rfl
    have hd12 : L 12 = false := hz 12 (by kernel_rfl)
    have hd16 : L 16 = false := by cases hq : L 16 with | false => rfl | true => rw [hS.no hq] at hd12; cases hd12
    have hpr := hS.pre hd12
    have hal : Below X.heap.size X (X.alloc (.cells #[.int .i64 (x : Nat), .int .i64 (f : Nat)] 83)) := (Below.refl _ _).alloc (Nat.le_refl _) _
    have hK := hK (.slice (some ⟨X.heap.size, 0, none⟩) 1 1) (X.alloc (.cells #[.int .i64 (x : Nat), .int .i64 (f : Nat)] 83)) ⟨hS.cap.below hal, Nat.lt_of_lt_of_le hS.rz hal.size, fun _ => hpr.trans (hal.mono hpr.size), fun h => (by rw [Reg.upd_ne _ _ (by decide), hd16] at h; cases h), fun _ _ => ⟨_, rfl, alloc_last X _⟩, fun h => (by rw [Reg.upd_ne _ _ (by decide), hd12] at h; cases h)⟩ (fun _ hx => by cases hx)
    clear hk hz hL hd12 hd16 hpr hal hS
    go_simp
    exact hK
   refine Reg.EachG.plain rfl (fun L u T X hL hz hS hk K hK => ?_) ?_
   ·skip
    have g45 := hk.val 7 45 (by kernel_rfl) (by kernel_rfl) rfl
    obtain ⟨g49, l49⟩ := hk.any 11 49 (by kernel_rfl) (by kernel_rfl)
    have hd16 : L 16 = false := by cases hq : L 16 with | false => rfl | true => rw [hS.no hq] at hL; cases hL
    have hpr := hS.pre hL
    obtain ⟨g, e11, hg⟩ := hS.lit l49 hL
    rw [e11] at g49
    have hrx := own_drop HR2.out hpr
    have hBX : B ≤ X.heap.size := by have := hpr.size; omega
    refine wp_app_at X (.tmp 45) (.tmp 49) 74 rfl B 83 i0 z0 2 16 Tryz.underlying74 hi0 hz0 hz1 hz2 hz3 (by decide) (.slice aA m cA) m (rowT A) (by simp [Act.eval, g45]) hrx ⟨g, 0, none⟩ 1 1 (thC (x, f)) (by simp [Act.eval, g49]) rfl (news_sm hg) (thC_one _) (by unfold maxLen; omega) (by omega) hBX ?_
    intro v' w' hown hgr hat
    obtain ⟨b', cap', rfl⟩ : ∃ b' cap', v' = .slice (some ⟨b', 0, none⟩) (m + 1) cap' := own_some hown (by omega)
    have hat' : (Value.slice aA m cA).ownBlock = some b' ∨ b' = X.heap.size := hat.imp (fun e => e.symm) (fun e => Option.some.inj e)
    exact hK _ w' ⟨⟨(hgr.block b4 (lt_blkB hS.cap.r) (fun e => own_neK hrx hS.cap.r (by decide) e.symm)).trans hS.cap.r, (hgr.block b6 (lt_blkB hS.cap.f) (fun e => own_neK hrx hS.cap.f (by decide) e.symm)).trans hS.cap.f⟩, Nat.lt_of_lt_of_le hS.rz hgr.size, fun h => (by rw [Reg.upd_same] at h; cases h), fun _ => Reg.upd_same _ _ _, fun _ h => (by rw [Reg.upd_same] at h; cases h), fun _ => ⟨X, w', b', cap', Reg.upd_same _ _ _, hpr, hown, hgr, hat', (if_neg (by rw [Reg.upd_ne _ _ (by decide), hd16]; decide)).symm⟩⟩ (fun _ hx => by cases hx)
   refine Reg.EachG.plain rfl (fun L u T X hL hz hS hk K hK => ?_) ?_
   ·skip
    have g38 := hk.val 0 38 (by kernel_rfl) (by kernel_rfl) rfl
    have hrz := hS.rz
    have hK := hK _ X hS (fun _ hx => Option.some.inj hx)
    clear hk hz hL hS
    go_simp
    exact hK
   refine Reg.EachG.plain rfl (fun L u T X hL hz hS hk K hK => ?_) ?_
   ·skip
    have g51 := hk.val 13 51 (by kernel_rfl) (by kernel_rfl) rfl
    have hrz := hS.rz
    have hK := hK _ X hS (fun _ hx => Option.some.inj hx)
    clear hk hz hL hS
    go_simp
    exact hK
   refine Reg.EachG.plain rfl (fun L u T X hL hz hS hk K hK => ?_) ?_
   ·skip
    have g39 := hk.val 1 39 (by kernel_rfl) (by kernel_rfl) rfl
    have g52 := hk.val 14 52 (by kernel_rfl) (by kernel_rfl) rfl
    have hrz := hS.rz
    have hK := hK _ X hS (fun _ hx => Option.some.inj hx)
    clear hk hz hL hS
    go_simp
    exact hK
   refine Reg.EachG.plain rfl (fun L u T X hL hz hS hk K hK => ?_) ?_
   ·skip
    obtain ⟨g50, l50⟩ := hk.any 12 50 (by kernel_rfl) (by kernel_rfl)
    have g53 := hk.val 15 53 (by kernel_rfl) (by kernel_rfl) rfl
    obtain ⟨wm, w1', b', cap', e12, h1, h2, h3, h4, h5⟩ := hS.new l50
    rw [if_neg (by rw [hL]; decide)] at h5
    have hrz := hS.rz
    have hcp := hS.cap
    subst h5
    have hbx : X.heap[rb]? = some (.cells cu2 78 (0, 0)) := (h3.block rb (Nat.lt_of_lt_of_le z2 h1.size) (fun e => HVR.out e.symm)).trans (HPRE.out wm h1)
    have hx2 : X.cell? ⟨rb, 2 + p, none⟩ = some (.slice aA m cA) := (Lib.cell_of_heap hbx _).trans HX2.out
    have hxf : X.frozen? ⟨rb, 2 + p, none⟩ = false := row_freeN hbx _
    have hK := hK undef (X.setCell ⟨rb, 2 + p, none⟩ (u 12)) ⟨⟨(Below.heap_setCell _ _ _ _ h4r).trans hcp.r, (Below.heap_setCell _ _ _ _ h6r).trans hcp.f⟩, by simpa using hrz, fun h => (by rw [Reg.upd_ne _ _ (by decide), l50] at h; cases h), fun _ => (by rw [Reg.upd_ne _ _ (by decide)]; exact l50), fun _ h => (by rw [Reg.upd_ne _ _ (by decide), l50] at h; cases h), fun _ => ⟨wm, X, b', cap', by rw [Reg.upd_ne _ _ (by decide)]; exact e12, h1, h2, h3, h4, by rw [Reg.upd_same, if_pos rfl, Reg.upd_ne _ _ (by decide)]⟩⟩ (fun _ hx => by cases hx)
    rw [e12] at hK g50
    clear hk hz hL hS h1 h2 h3 h4 hbx hcp
    go_simp
    exact hK
   exact Reg.EachG.nil
  case rsZ =>
   intro L u w1 hL hS hI
   have e0 := hI 0 (by decide) _ rfl
   have e1 := hI 1 (by decide) _ rfl
   have e2 := hI 2 (by decide) _ rfl
   have e3 := hI 3 (by decide) _ rfl
   have e4 := hI 4 (by decide) _ rfl
   have e5 := hI 5 (by decide) _ rfl
   have e6 := hI 6 (by decide) _ rfl
   have e7 := hI 7 (by decide) _ rfl
   have e8 := hI 8 (by decide) _ rfl
   have e9 := hI 9 (by decide) _ rfl
   have e10 := hI 10 (by decide) _ rfl
   have e13 := hI 13 (by decide) _ rfl
   have e14 := hI 14 (by decide) _ rfl
   have e15 := hI 15 (by decide) _ rfl
   clear hI
   simp only [Reg.putAll, Act.put, List.setIfInBounds_toArray, List.set_cons_succ, List.set_cons_zero, Nat.zero_add, Nat.reduceAdd, e0, e1, e2, e3, e4, e5, e6, e7, e8, e9, e10, e13, e14, e15]
   clear e0 e1 e2 e3 e4 e5 e6 e7 e8 e9 e10 e13 e14 e15
   have d12 := hL 12 (by decide)
   have d16 := hL 16 (by decide)
   obtain ⟨wm, w1', b', cap', e12, h1, h2, h3, h4, h5⟩ := hS.new d12
   rw [if_pos d16, e12] at h5
   have hS2 : Below w.heap.size ((w.setCell ⟨rb, 5 + x, none⟩ (intZ gen)).setCell ⟨rb, 4005, none⟩ (intZ (vis + 1))) W2.drew := by
    rw [HW2.out, HS1.out]
    have h9 : Below ((w.setCell ⟨rb, 5 + x, none⟩ (intZ gen)).setCell ⟨rb, 4005, none⟩ (intZ (vis + 1))).heap.size ((w.setCell ⟨rb, 5 + x, none⟩ (intZ gen)).setCell ⟨rb, 4005, none⟩ (intZ (vis + 1))) ((w.setCell ⟨rb, 5 + x, none⟩ (intZ gen)).setCell ⟨rb, 4005, none⟩ (intZ (vis + 1))).drew.drew.drew := (Below.refl _ _).drew.drew.drew
    simp only [World.size_setCell] at h9
    exact h9
   have HEND := Lib.hid (HPUT.out b' cap' wm w1' (hS2.trans (by rw [← hsz2]; exact h1)) h2 h3 h4)
   rw [← h5] at HEND
   clear hS hL d12 d16 h1 h2 h3 h4 h5 hS2 e12
   go_wp2
   go_ret
   exact ⟨rfl, _, HEND.out⟩
def TurnQ (B rb gb n gen vis : Nat) (S : Value) (A : Th) (vA : Value) (w : World) (r : Ending) (w' : World) : Prop := r = .returned vA ∧ ∃ vC', RunB true B rb gb n S (gen + 1) vis [] A vC' vA w' ∧ ChSm B w w'
theorem turn_any (on : Bool) (B rb gb n gen vis : Nat) (S : Value) (A C : Th) (vA vC : Value) (w : World) (hg : gen ≤ 2305843009213693952) (h : RunB on B rb gb n S gen vis A C vA vC w) :
  Calls Tryz.prog 27 #[.pointer (some ⟨rb, 0, none⟩)] w (TurnQ B rb gb n gen vis S A vA w) := by
 obtain ⟨aA, cA, rfl⟩ := own_shapeR h.ra
 obtain ⟨aC, cC, rfl⟩ := own_shapeR h.rc
 have HT := Lib.hid h.turn
 obtain ⟨_, _, c2, c3, c4, _, cz, cf⟩ := h.cells
 obtain ⟨p, hp⟩ : ∃ p, p = gen % 2 := ⟨_, rfl⟩
 obtain ⟨q, hq⟩ : ∃ q, q = (gen + 1) % 2 := ⟨_, rfl⟩
 rw [← hp] at c2
 rw [← hq] at c3 HT
 have hr0 : (gen : Int).tmod 2 = (p : Int) := by rw [Int.tmod_eq_emod_of_nonneg (by omega)]; omega
 have hr1 : ((gen : Int) + 1).tmod 2 = (q : Int) := by rw [Int.tmod_eq_emod_of_nonneg (by omega)]; omega
 have p2 : (p : Int) < 2 := by omega
 have q2 : (q : Int) < 2 := by omega
 have hq4 : ¬ 2 + q = 4 := by omega
 have hg1 : (gen : Int) + 1 ≤ 9223372036854775807 := by omega
 have hBw : B ≤ w.heap.size := Nat.le_trans h.lo (Nat.le_of_lt cz)
 have f4 := cf 4
 unfold TurnQ
 clear h hp hq
 go_enter Tryz.func27, Tryz.ntmps27
 go_wp2
 go_region
 go_upto_region 3 with fail
 obtain ⟨Wq, hWq⟩ : ∃ Wq, Wq = (w.setCell ⟨rb, 4, none⟩ (.int .i64 ((gen : Int) + 1))).drew := ⟨_, rfl⟩
 have d4 : Wq.drew.cell? ⟨rb, 4, none⟩ = some (.int .i64 ((gen : Int) + 1)) := by rw [hWq]; show (w.setCell _ _).cell? _ = _; exact World.cell?_setCell_same _ _ _ c4
 have d3 : Wq.drew.cell? ⟨rb, 2 + q, none⟩ = some (.slice aC C.length cC) := by rw [hWq]; show (w.setCell _ _).cell? _ = _; rw [World.cell?_setCell_other _ _ _ _ (by simp <;> omega)]; exact c3
 have df : Wq.drew.frozen? ⟨rb, 2 + q, none⟩ = false := by rw [hWq]; show (w.setCell _ _).frozen? _ = _; simp [cf]
 have dz : rb < Wq.drew.heap.size := by rw [hWq]; show rb < (w.setCell _ _).heap.size; simpa using cz
 have HWQ := Lib.hid hWq
 rw [← hWq]
 clear hWq c2 c3 c4 f4 cf cz hr0
 refine Reg.wp_region_sto (fun L u X => X = if L 20 = true then Wq.drew.setCell ⟨rb, 2 + q, none⟩ (.slice aC 0 cC) else Wq.drew) (fun j => ([some (.pointer (some ⟨rb, 0, none⟩)), some (.pointer (some ⟨rb, 0, none⟩)), some (.pointer (some ⟨rb, 0, none⟩)), some (.pointer (some ⟨rb, 4, none⟩)), some (.int .i64 ((gen : Int) + 1)), some (.int .i64 (q : Nat)), some (.pointer (some ⟨rb, 0, none⟩)), some (.pointer (some ⟨rb, 0, none⟩)), some (.pointer (some ⟨rb, 0, none⟩)), some (.pointer (some ⟨rb, 4, none⟩)), some (.int .i64 ((gen : Int) + 1)), some (.int .i64 (q : Nat)), some (.pointer (some ⟨rb, 0, none⟩)), some (.pointer (some ⟨rb, 2, none⟩)), some (.pointer (some ⟨rb, 2 + q, none⟩)), some (.slice aC C.length cC), some (.slice aC 0 cC), some (.pointer (some ⟨rb, 0, none⟩)), some (.pointer (some ⟨rb, 2, none⟩)), some (.pointer (some ⟨rb, 2 + q, none⟩)), none] : List (Option Value)).getD j none) (by kernel_rfl) (by kernel_rfl) (by kernel_rfl) (by kernel_rfl) ?rs0 ?rsE ?rsZ
 case rs0 => exact (if_neg (by decide)).symm
 case rsE =>
  refine Reg.EachG.plain rfl (fun L u T X hL hz hS hk K hK => ?_) ?_
  ·skip
   have g0 := hk.old 0 (by kernel_rfl) rfl
   have hS0 := hS
   rw [hz 20 (by kernel_rfl), if_neg (by decide)] at hS0
   have hK := hK _ X (by rw [Reg.upd_ne _ _ (by decide)]; exact hS) (fun _ hx => Option.some.inj hx)
   subst hS0
   clear hk hz hL hS
   go_simp
   exact hK
  refine Reg.EachG.plain rfl (fun L u T X hL hz hS hk K hK => ?_) ?_
  ·skip
   have g0 := hk.old 0 (by kernel_rfl) rfl
   have hS0 := hS
   rw [hz 20 (by kernel_rfl), if_neg (by decide)] at hS0
   have hK := hK _ X (by rw [Reg.upd_ne _ _ (by decide)]; exact hS) (fun _ hx => Option.some.inj hx)
   subst hS0
   clear hk hz hL hS
   go_simp
   exact hK
  refine Reg.EachG.plain rfl (fun L u T X hL hz hS hk K hK => ?_) ?_
  ·skip
   have g22 := hk.val 1 22 (by kernel_rfl) (by kernel_rfl) rfl
   have hS0 := hS
   rw [hz 20 (by kernel_rfl), if_neg (by decide)] at hS0
   have hK := hK _ X (by rw [Reg.upd_ne _ _ (by decide)]; exact hS) (fun _ hx => Option.some.inj hx)
   subst hS0
   clear hk hz hL hS
   go_simp
   exact hK
  refine Reg.EachG.plain rfl (fun L u T X hL hz hS hk K hK => ?_) ?_
  ·skip
   have g23 := hk.val 2 23 (by kernel_rfl) (by kernel_rfl) rfl
   have hS0 := hS
   rw [hz 20 (by kernel_rfl), if_neg (by decide)] at hS0
   have hK := hK _ X (by rw [Reg.upd_ne _ _ (by decide)]; exact hS) (fun _ hx => Option.some.inj hx)
   subst hS0
   clear hk hz hL hS
   go_simp
   exact hK
  refine Reg.EachG.plain rfl (fun L u T X hL hz hS hk K hK => ?_) ?_
  ·skip
   have g24 := hk.val 3 24 (by kernel_rfl) (by kernel_rfl) rfl
   have hS0 := hS
   rw [hz 20 (by kernel_rfl), if_neg (by decide)] at hS0
   have hK := hK _ X (by rw [Reg.upd_ne _ _ (by decide)]; exact hS) (fun _ hx => Option.some.inj hx)
   subst hS0
   clear hk hz hL hS
   go_simp
   exact hK
  refine Reg.EachG.plain rfl (fun L u T X hL hz hS hk K hK => ?_) ?_
  ·skip
   have g25 := hk.val 4 25 (by kernel_rfl) (by kernel_rfl) rfl
   have hS0 := hS
   rw [hz 20 (by kernel_rfl), if_neg (by decide)] at hS0
   have hK := hK _ X (by rw [Reg.upd_ne _ _ (by decide)]; exact hS) (fun _ hx => Option.some.inj hx)
   subst hS0
   clear hk hz hL hS
   go_simp
   exact hK
  refine Reg.EachG.plain rfl (fun L u T X hL hz hS hk K hK => ?_) ?_
  ·skip
   have g0 := hk.old 0 (by kernel_rfl) rfl
   have hS0 := hS
   rw [hz 20 (by kernel_rfl), if_neg (by decide)] at hS0
   have hK := hK _ X (by rw [Reg.upd_ne _ _ (by decide)]; exact hS) (fun _ hx => Option.some.inj hx)
   subst hS0
   clear hk hz hL hS
   go_simp
   exact hK
  refine Reg.EachG.plain rfl (fun L u T X hL hz hS hk K hK => ?_) ?_
  ·skip
   have g0 := hk.old 0 (by kernel_rfl) rfl
   have hS0 := hS
   rw [hz 20 (by kernel_rfl), if_neg (by decide)] at hS0
   have hK := hK _ X (by rw [Reg.upd_ne _ _ (by decide)]; exact hS) (fun _ hx => Option.some.inj hx)
   subst hS0
   clear hk hz hL hS
   go_simp
   exact hK
  refine Reg.EachG.plain rfl (fun L u T X hL hz hS hk K hK => ?_) ?_
  ·skip
   have g28 := hk.val 7 28 (by kernel_rfl) (by kernel_rfl) rfl
   have hS0 := hS
   rw [hz 20 (by kernel_rfl), if_neg (by decide)] at hS0
   have hK := hK _ X (by rw [Reg.upd_ne _ _ (by decide)]; exact hS) (fun _ hx => Option.some.inj hx)
   subst hS0
   clear hk hz hL hS
   go_simp
   exact hK
  refine Reg.EachG.plain rfl (fun L u T X hL hz hS hk K hK => ?_) ?_
  ·skip
   have g29 := hk.val 8 29 (by kernel_rfl) (by kernel_rfl) rfl
   have hS0 := hS
   rw [hz 20 (by kernel_rfl), if_neg (by decide)] at hS0
   have hK := hK _ X (by rw [Reg.upd_ne _ _ (by decide)]; exact hS) (fun _ hx => Option.some.inj hx)
   subst hS0
   clear hk hz hL hS
   go_simp
   exact hK
  refine Reg.EachG.plain rfl (fun L u T X hL hz hS hk K hK => ?_) ?_
  ·skip
   have g30 := hk.val 9 30 (by kernel_rfl) (by kernel_rfl) rfl
   have hS0 := hS
   rw [hz 20 (by kernel_rfl), if_neg (by decide)] at hS0
   have hK := hK _ X (by rw [Reg.upd_ne _ _ (by decide)]; exact hS) (fun _ hx => Option.some.inj hx)
   subst hS0
   clear hk hz hL hS
   go_simp
   exact hK
  refine Reg.EachG.plain rfl (fun L u T X hL hz hS hk K hK => ?_) ?_
  ·skip
   have g31 := hk.val 10 31 (by kernel_rfl) (by kernel_rfl) rfl
   have hS0 := hS
   rw [hz 20 (by kernel_rfl), if_neg (by decide)] at hS0
   have hK := hK _ X (by rw [Reg.upd_ne _ _ (by decide)]; exact hS) (fun _ hx => Option.some.inj hx)
   subst hS0
   clear hk hz hL hS
   go_simp
   exact hK
  refine Reg.EachG.plain rfl (fun L u T X hL hz hS hk K hK => ?_) ?_
  ·skip
   have g27 := hk.val 6 27 (by kernel_rfl) (by kernel_rfl) rfl
   have hS0 := hS
   rw [hz 20 (by kernel_rfl), if_neg (by decide)] at hS0
   have hK := hK _ X (by rw [Reg.upd_ne _ _ (by decide)]; exact hS) (fun _ hx => Option.some.inj hx)
   subst hS0
   clear hk hz hL hS
   go_simp
   exact hK
  refine Reg.EachG.plain rfl (fun L u T X hL hz hS hk K hK => ?_) ?_
  ·skip
   have g33 := hk.val 12 33 (by kernel_rfl) (by kernel_rfl) rfl
   have hS0 := hS
   rw [hz 20 (by kernel_rfl), if_neg (by decide)] at hS0
   have hK := hK _ X (by rw [Reg.upd_ne _ _ (by decide)]; exact hS) (fun _ hx => Option.some.inj hx)
   subst hS0
   clear hk hz hL hS
   go_simp
   exact hK
  refine Reg.EachG.plain rfl (fun L u T X hL hz hS hk K hK => ?_) ?_
  ·skip
   have g32 := hk.val 11 32 (by kernel_rfl) (by kernel_rfl) rfl
   have g34 := hk.val 13 34 (by kernel_rfl) (by kernel_rfl) rfl
   have hS0 := hS
   rw [hz 20 (by kernel_rfl), if_neg (by decide)] at hS0
   have hK := hK _ X (by rw [Reg.upd_ne _ _ (by decide)]; exact hS) (fun _ hx => Option.some.inj hx)
   subst hS0
   clear hk hz hL hS
   go_simp
   exact hK
  refine Reg.EachG.plain rfl (fun L u T X hL hz hS hk K hK => ?_) ?_
  ·skip
   have g35 := hk.val 14 35 (by kernel_rfl) (by kernel_rfl) rfl
   have hS0 := hS
   rw [hz 20 (by kernel_rfl), if_neg (by decide)] at hS0
   have hK := hK _ X (by rw [Reg.upd_ne _ _ (by decide)]; exact hS) (fun _ hx => Option.some.inj hx)
   subst hS0
   clear hk hz hL hS
   go_simp
   exact hK
  refine Reg.EachG.plain rfl (fun L u T X hL hz hS hk K hK => ?_) ?_
  ·skip
   have g36 := hk.val 15 36 (by kernel_rfl) (by kernel_rfl) rfl
   have hS0 := hS
   rw [hz 20 (by kernel_rfl), if_neg (by decide)] at hS0
   have hK := hK _ X (by rw [Reg.upd_ne _ _ (by decide)]; exact hS) (fun _ hx => Option.some.inj hx)
   subst hS0
   clear hk hz hL hS
   go_simp
   exact hK
  refine Reg.EachG.plain rfl (fun L u T X hL hz hS hk K hK => ?_) ?_
  ·skip
   have g21 := hk.val 0 21 (by kernel_rfl) (by kernel_rfl) rfl
   have hS0 := hS
   rw [hz 20 (by kernel_rfl), if_neg (by decide)] at hS0
   have hK := hK _ X (by rw [Reg.upd_ne _ _ (by decide)]; exact hS) (fun _ hx => Option.some.inj hx)
   subst hS0
   clear hk hz hL hS
   go_simp
   exact hK
  refine Reg.EachG.plain rfl (fun L u T X hL hz hS hk K hK => ?_) ?_
  ·skip
   have g38 := hk.val 17 38 (by kernel_rfl) (by kernel_rfl) rfl
   have hS0 := hS
   rw [hz 20 (by kernel_rfl), if_neg (by decide)] at hS0
   have hK := hK _ X (by rw [Reg.upd_ne _ _ (by decide)]; exact hS) (fun _ hx => Option.some.inj hx)
   subst hS0
   clear hk hz hL hS
   go_simp
   exact hK
  refine Reg.EachG.plain rfl (fun L u T X hL hz hS hk K hK => ?_) ?_
  ·skip
   have g26 := hk.val 5 26 (by kernel_rfl) (by kernel_rfl) rfl
   have g39 := hk.val 18 39 (by kernel_rfl) (by kernel_rfl) rfl
   have hS0 := hS
   rw [hz 20 (by kernel_rfl), if_neg (by decide)] at hS0
   have hK := hK _ X (by rw [Reg.upd_ne _ _ (by decide)]; exact hS) (fun _ hx => Option.some.inj hx)
   subst hS0
   clear hk hz hL hS
   go_simp
   exact hK
  refine Reg.EachG.plain rfl (fun L u T X hL hz hS hk K hK => ?_) ?_
  ·skip
   have g37 := hk.val 16 37 (by kernel_rfl) (by kernel_rfl) rfl
   have g40 := hk.val 19 40 (by kernel_rfl) (by kernel_rfl) rfl
   rw [hL, if_neg (by decide)] at hS
   subst hS
   have hK := hK undef (Wq.drew.setCell ⟨rb, 2 + q, none⟩ (.slice aC 0 cC)) (by rw [Reg.upd_same, if_pos rfl]) (fun _ hx => by cases hx)
   clear hk hz hL
   go_simp
   exact hK
  exact Reg.EachG.nil
 case rsZ =>
  intro L u w1 hL hS hI
  have e0 := hI 0 (by decide) _ rfl
  have e1 := hI 1 (by decide) _ rfl
  have e2 := hI 2 (by decide) _ rfl
  have e3 := hI 3 (by decide) _ rfl
  have e4 := hI 4 (by decide) _ rfl
  have e5 := hI 5 (by decide) _ rfl
  have e6 := hI 6 (by decide) _ rfl
  have e7 := hI 7 (by decide) _ rfl
  have e8 := hI 8 (by decide) _ rfl
  have e9 := hI 9 (by decide) _ rfl
  have e10 := hI 10 (by decide) _ rfl
  have e11 := hI 11 (by decide) _ rfl
  have e12 := hI 12 (by decide) _ rfl
  have e13 := hI 13 (by decide) _ rfl
  have e14 := hI 14 (by decide) _ rfl
  have e15 := hI 15 (by decide) _ rfl
  have e16 := hI 16 (by decide) _ rfl
  have e17 := hI 17 (by decide) _ rfl
  have e18 := hI 18 (by decide) _ rfl
  have e19 := hI 19 (by decide) _ rfl
  clear hI
  simp only [Reg.putAll, Act.put, List.setIfInBounds_toArray, List.set_cons_succ, List.set_cons_zero, Nat.zero_add, Nat.reduceAdd, e0, e1, e2, e3, e4, e5, e6, e7, e8, e9, e10, e11, e12, e13, e14, e15, e16, e17, e18, e19]
  clear e0 e1 e2 e3 e4 e5 e6 e7 e8 e9 e10 e11 e12 e13 e14 e15 e16 e17 e18 e19
  rw [hL 20 (by decide), if_pos rfl] at hS
  subst hS
  clear hL u L
  go_wp2
  go_ret
  refine ⟨rfl, .slice aC 0 cC, ?_⟩
  rw [HWQ.out]
  have hb : Below ((w.setCell ⟨rb, 4, none⟩ (intZ (gen + 1))).setCell ⟨rb, 2 + q, none⟩ (.slice aC 0 cC)).heap.size ((w.setCell ⟨rb, 4, none⟩ (intZ (gen + 1))).setCell ⟨rb, 2 + q, none⟩ (.slice aC 0 cC)) ((w.setCell ⟨rb, 4, none⟩ (intZ (gen + 1))).setCell ⟨rb, 2 + q, none⟩ (.slice aC 0 cC)).drew.drew := (Below.refl _ _).drew.drew
  exact ⟨HT.out.1.below hb, HT.out.2.trans (ChSm.below hb (by simpa using hBw))⟩
end Go.Proofs.YtnpkcllbpnmabaaGreatDoor
