import Derived.Test.YtnpkcllbpnmabaaGreatDoorKLi
import Derived.WalkKit
import Derived.Laws.Rows
import Derived.Laws.Tables
import Derived.Great.BuildSlice
namespace Go.Proofs.YtnpkcllbpnmabaaGreatDoor
section
variable {P : Program}
def spl (cur : List Value) (o : Nat) (vs : List Value) : List Value := cur.take o ++ vs ++ cur.drop (o + vs.length)
theorem spl_len (cur : List Value) (o : Nat) (vs : List Value) (h : o + vs.length ≤ cur.length) : (spl cur o vs).length = cur.length := by
 unfold spl
 simp
 omega
theorem spl_at (cur : List Value) (o : Nat) (vs : List Value) (h : o + vs.length ≤ cur.length) (j : Nat) : (spl cur o vs)[j]? = if j < o then cur[j]? else if j < o + vs.length then vs[j - o]? else cur[j]? := by
 unfold spl
 have h1 : (cur.take o).length = o := by rw [List.length_take]; omega
 by_cases hj : j < o
 ·rw [if_pos hj, List.append_assoc, List.getElem?_append_left (by omega), List.getElem?_take, if_pos hj]
 ·rw [if_neg hj, List.append_assoc, List.getElem?_append_right (by omega), h1]
  by_cases hj2 : j < o + vs.length
  ·rw [if_pos hj2, List.getElem?_append_left (by omega)]
  ·rw [if_neg hj2, List.getElem?_append_right (by omega), List.getElem?_drop]
   congr 1
   omega
theorem run_loadVar_part (w : World) (g o : Nat) (t ty : TypeId) (cs : Array Value) (part : List Value) (fr : Nat × Nat) (d : TypeDesc) (hg : w.heap[g]? = some (.cells cs t fr)) (hp : ∀ j u, part[j]? = some u → cs[o + j]? = some u)
  (hu : P.underlying ty = some d) (hd : (match d with | .struct _ | .array _ _ => true | _ => false) = true) (hi : (P.info? ty).map (·.size) = some part.length) :
  (loadVar ty ⟨g, o, none⟩).run P w = .ok (.agg part.toArray) w := by
 have hl : (loadCells ⟨g, o, none⟩ part.length).run P w = .ok part.toArray w :=
  run_loadCells_list (P := P) w ⟨g, o, none⟩ part (fun j v hv => by
   rw [WideShapes.add_plain, cell_of_row w g _ cs t fr hg]
   exact hp j v hv)
 cases hq : P.info? ty with
 | none => simp [hq] at hi
 | some i =>
  have hs : i.size = part.length := by simpa [hq] using hi
  have hagg : (isAgg ty).run P w = .ok true w := by
   unfold isAgg
   rw [Sem.run_bind, run_underlying hu w]
   cases d <;> simp_all
  simp [loadVar, Sem.run_bind, hagg, sizeOf, typeInfo, hq, hs, hl]
theorem run_storeCells_part (g o : Nat) (t : TypeId) : ∀ (vs : List Value) (i : Nat) (cur : Array Value) (w : World), w.heap[g]? = some (.cells cur t (0, 0)) → o + i + vs.length ≤ cur.size → (∀ v ∈ vs, v.oneCell' = true) →
  (storeCells ⟨g, o, none⟩ vs i).run P w = .ok () (w.setRow g (spl cur.toList (o + i) vs).toArray)
 | [], i, cur, w, hg, hl, _ => by
  have e : spl cur.toList (o + i) [] = cur.toList := by unfold spl; simp
  have hlt : g < w.heap.size := (Array.getElem?_eq_some_iff.1 hg).1
  have hv : w.heap[g] = .cells cur t (0, 0) := (Array.getElem?_eq_some_iff.1 hg).2
  rw [e, Array.toArray_toList]
  simp only [storeCells]
  show Result.ok () w = _
  congr 1
  unfold World.setRow
  cases w with
  | mk heap tape drawn os output =>
   congr 1
   apply Array.ext
   ·simp
   ·intro k h1 h2
    simp only [Array.getElem_modify]
    split
    ·rename_i hk; subst hk; simp at hv; simp [hv]
    ·rfl
 | v :: rest, i, cur, w, hg, hl, h1 => by
  have hi : o + i < cur.size := by simp at hl; omega
  have hadd : (⟨g, o, none⟩ : Addr).add i = ⟨g, o + i, none⟩ := WideShapes.add_plain _ _ _
  have hcell : w.cell? ⟨g, o + i, none⟩ = some cur[o + i] := by simp [World.cell?, hg, hi]
  have hfro : w.frozen? ⟨g, o + i, none⟩ = false := by simp [World.frozen?, hg]
  have hst : (store ((⟨g, o, none⟩ : Addr).add i) v).run P w = .ok () (w.setRow g (cur.setIfInBounds (o + i) v)) := by
   rw [hadd, run_store P w _ v _ (h1 v (by simp)), hcell]
   simp [hfro, setCell_eq_setRow w g (o + i) cur t (0, 0) v hg]
  have ih := run_storeCells_part g o t rest (i + 1) (cur.setIfInBounds (o + i) v) (w.setRow g (cur.setIfInBounds (o + i) v)) (setRow_heap w g cur _ t _ hg) (by simp at hl ⊢; omega) (fun x hx => h1 x (by simp [hx]))
  simp only [storeCells, Sem.run_bind, hst, Result.andThen_ok, ih, setRow_setRow]
  congr 3
  apply List.ext_getElem?
  intro k
  have hl' : o + i + (v :: rest).length ≤ cur.toList.length := by simpa using hl
  have hl2 : o + (i + 1) + rest.length ≤ (cur.setIfInBounds (o + i) v).toList.length := by simp at hl ⊢; omega
  rw [spl_at _ _ _ hl', spl_at _ _ _ hl2]
  simp only [Array.toList_setIfInBounds, List.getElem?_set, List.length_cons, Array.length_toList]
  by_cases hk : k < o + i
  ·rw [if_pos (show k < o + (i + 1) by omega), if_pos hk, if_neg (show ¬ o + i = k by omega)]
  ·by_cases hk2 : k = o + i
   ·subst hk2
    rw [if_pos (show o + i < o + (i + 1) by omega), if_neg (show ¬ o + i < o + i by omega), if_pos (show o + i < o + i + (rest.length + 1) by omega), if_pos rfl, if_pos (show o + i < cur.size from hi), Nat.sub_self]
    rfl
   ·rw [if_neg (show ¬ k < o + (i + 1) by omega), if_neg hk]
    by_cases hk3 : k < o + (i + 1) + rest.length
    ·rw [if_pos hk3, if_pos (show k < o + i + (rest.length + 1) by omega), show k - (o + i) = (k - (o + (i + 1))) + 1 by omega]
     rfl
    ·rw [if_neg hk3, if_neg (show ¬ k < o + i + (rest.length + 1) by omega), if_neg (show ¬ o + i = k by omega)]
theorem run_storeVar_part (w : World) (g o : Nat) (t ty : TypeId) (cur : Array Value) (vs : List Value) (hg : w.heap[g]? = some (.cells cur t (0, 0))) (hi : (P.info? ty).map (·.size) = some vs.length)
  (ho : o + vs.length ≤ cur.size) (h1 : vs.all (·.oneCell') = true) :
  (storeVar ty ⟨g, o, none⟩ (.agg vs.toArray)).run P w = .ok () (w.setRow g (spl cur.toList o vs).toArray) := by
 have := run_storeCells_part (P := P) g o t vs 0 cur w hg (by omega) (fun v hv => (List.all_eq_true.1 h1) v hv)
 rw [Nat.add_zero] at this
 cases hq : P.info? ty with
 | none => simp [hq] at hi
 | some i =>
  have hs : vs.length = i.size := by simp [hq] at hi; omega
  simp [storeVar, sizeOf, typeInfo, hq, Value.cells, hs, this]
theorem wp_load_part {o : Oper} {a : Act} {w : World} {K : Act → World → Prop} {Q : Exit → Act → World → Prop} (ty : TypeId) (x : Operand) (ho : o.op = .load ty x)
  (g i : Nat) (hx : a.eval x = .pointer (some ⟨g, i, none⟩)) (t : TypeId) (cs : Array Value) (part : List Value) (fr : Nat × Nat) (d : TypeDesc) (hg : w.heap[g]? = some (.cells cs t fr)) (hp : ∀ j u, part[j]? = some u → cs[i + j]? = some u)
  (hu : P.underlying ty = some d) (hd : (match d with | .struct _ | .array _ _ => true | _ => false) = true) (hi : (P.info? ty).map (·.size) = some part.length)
  (h : K (a.put o.dst (.agg part.toArray)) w) : o.wp P a w K Q := by
 unfold Oper.wp execOp
 simp only [ho, hx, Instr.loadAt, Instr.sureAddr, Sem.run_bind, Sem.run_pure, Result.andThen_ok, run_loadVar_part w g i t ty cs part fr d hg hp hu hd hi]
 exact h
theorem wp_store_part {o : Oper} {a : Act} {w : World} {K : Act → World → Prop} {Q : Exit → Act → World → Prop} (ty : TypeId) (x y : Operand) (ho : o.op = .store ty x y)
  (g i : Nat) (vs : List Value) (hx : a.eval x = .pointer (some ⟨g, i, none⟩)) (hy : a.eval y = .agg vs.toArray)
  (t : TypeId) (cur : Array Value) (hg : w.heap[g]? = some (.cells cur t (0, 0))) (hi : (P.info? ty).map (·.size) = some vs.length)
  (hc : i + vs.length ≤ cur.size) (h1 : vs.all (·.oneCell') = true)
  (h : K (a.put o.dst undef) (w.setRow g (spl cur.toList i vs).toArray)) : o.wp P a w K Q := by
 unfold Oper.wp execOp
 simp only [ho, hx, hy, Instr.storeAt, Instr.sureAddr, Sem.run_bind, Sem.run_pure, Result.andThen_ok, run_storeVar_part w g i t ty cur vs hg hi hc h1]
 exact h
theorem wpList_load_part {ops : Array Oper} {rest : List Oper} {o : Oper} {a : Act} {w : World} {Q : Exit → Act → World → Prop} (hgd : o.guard = none) (ty : TypeId) (x : Operand) (ho : o.op = .load ty x)
  (g i : Nat) (hx : a.eval x = .pointer (some ⟨g, i, none⟩)) (t : TypeId) (cs : Array Value) (part : List Value) (fr : Nat × Nat) (d : TypeDesc) (hg : w.heap[g]? = some (.cells cs t fr)) (hp : ∀ j u, part[j]? = some u → cs[i + j]? = some u)
  (hu : P.underlying ty = some d) (hd : (match d with | .struct _ | .array _ _ => true | _ => false) = true) (hi : (P.info? ty).map (·.size) = some part.length)
  (h : wpList P ops Q rest (a.put o.dst (.agg part.toArray)) w) : wpList P ops Q (o :: rest) a w :=
 wpList_plain hgd fun _ hK => wp_load_part ty x ho g i hx t cs part fr d hg hp hu hd hi (hK _ _ h)
theorem wpList_store_part {ops : Array Oper} {rest : List Oper} {o : Oper} {a : Act} {w : World} {Q : Exit → Act → World → Prop} (hgd : o.guard = none) (ty : TypeId) (x y : Operand) (ho : o.op = .store ty x y) (hd : o.dst = none)
  (g i : Nat) (vs : List Value) (hx : a.eval x = .pointer (some ⟨g, i, none⟩)) (hy : a.eval y = .agg vs.toArray)
  (t : TypeId) (cur : Array Value) (hg : w.heap[g]? = some (.cells cur t (0, 0))) (hi : (P.info? ty).map (·.size) = some vs.length)
  (hc : i + vs.length ≤ cur.size) (h1 : vs.all (·.oneCell') = true)
  (h : wpList P ops Q rest a (w.setRow g (spl cur.toList i vs).toArray)) : wpList P ops Q (o :: rest) a w :=
 wpList_plain hgd fun _ hK => wp_store_part ty x y ho g i vs hx hy t cur hg hi hc h1 (hK _ _ (by rw [hd]; exact h))
end
end Go.Proofs.YtnpkcllbpnmabaaGreatDoor
