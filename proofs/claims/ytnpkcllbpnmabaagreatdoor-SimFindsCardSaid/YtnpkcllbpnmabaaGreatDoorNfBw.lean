import Derived.Test.YtnpkcllbpnmabaaGreatDoorKNm
import Derived.Test.YtnpkcllbpnmabaaGreatDoorKPu
import Derived.RangeFuncNested
import Derived.RangeFuncBox
import Derived.RangeFuncLeaves
import Derived.Shelf.Abstract
import Derived.WalkKit
import Derived.OwnWalkIn
import Derived.TacticsInMore
import Derived.LoopNIn
import Derived.LoopIn
namespace Go.Proofs.YtnpkcllbpnmabaaGreatDoor
set_option maxRecDepth 100000
open Go.RowKit Go.Shelf
attribute [local go_sem] Oper.semAt_some
def ChT (w w' : World) : Prop := ∀ (i : Nat) (cs : Array Value) (T : TypeId) (z : Nat × Nat), T ≠ 106 → T ≠ 103 → T ≠ 3 → w.heap[i]? = some (.cells cs T z) → w'.heap[i]? = w.heap[i]?
theorem ChT.refl (w : World) : ChT w w := fun _ _ _ _ _ _ _ _ => rfl
theorem ChT.trans {a b c : World} (h : ChT a b) (k : ChT b c) : ChT a c := fun i cs T z h1 h2 h3 h4 => (k i cs T z h1 h2 h3 ((h i cs T z h1 h2 h3 h4).trans h4)).trans (h i cs T z h1 h2 h3 h4)
theorem ChT.put (W : World) (l : Nat) (o o' : Obj) (h : W.heap[l]? = some o) (ho : o.isCells = false) : ChT W (W.putObj l o') := fun i cs T z _ _ _ h4 =>
 (grownBy_putObj' W l o').block i (lt_blkB h4) (fun e => by
  obtain rfl := Option.some.inj e
  rw [h4] at h
  rw [← Option.some.inj h] at ho
  cases ho)
theorem ChG.t {B : Nat} {w w' : World} (h : ChG B w w') : ChT w w' := fun i cs T z h1 h2 _ h4 => h.oth i cs T z h1 h2 h4
theorem ChT.blk {w w' : World} (h : ChT w w') {i : Nat} {cs : Array Value} {T : TypeId} {z : Nat × Nat} (hb : w.heap[i]? = some (.cells cs T z)) (h1 : T ≠ 106) (h2 : T ≠ 103) (h3 : T ≠ 3) : w'.heap[i]? = some (.cells cs T z) := (h i cs T z h1 h2 h3 hb).trans hb
theorem wpListIn_load_part {F : Fence} {n : Nat} {P : Program} {ops : Array Oper} {rest : List Oper} {o : Oper} {a : Act} {w : World} {Q : Exit → Act → World → Prop} (hgd : o.guard = none) (ty : TypeId) (x : Operand) (ho : o.op = .load ty x)
  (g i : Nat) (hx : a.eval x = .pointer (some ⟨g, i, none⟩)) (t : TypeId) (cs : Array Value) (part : List Value) (fr : Nat × Nat) (d : TypeDesc) (hg : w.heap[g]? = some (.cells cs t fr)) (hp : ∀ j u, part[j]? = some u → cs[i + j]? = some u)
  (hu : P.underlying ty = some d) (hd : (match d with | .struct _ | .array _ _ => true | _ => false) = true) (hi : (P.info? ty).map (·.size) = some part.length)
  (h : wpListIn F n P ops Q rest (a.put o.dst (.agg part.toArray)) w) : wpListIn F n P ops Q (o :: rest) a w := by
 refine wpListIn_plain hgd fun K hK => ?_
 unfold Oper.wpIn
 refine ⟨?_, ?_⟩
 ·simp [Oper.about, ho]
 ·rw [Oper.semAt_plain F _ _ (by rw [ho]; intro c hc'; cases hc')]
  unfold execOp
  simp only [ho, hx, Instr.loadAt, Instr.sureAddr, Sem.run_bind, Sem.run_pure, Result.andThen_ok, run_loadVar_part w g i t ty cs part fr d hg hp hu hd hi]
  exact hK _ _ h
theorem dnL_len (len k : Nat) : (downL len k).length = k := by simp [downL]
set_option maxHeartbeats 4000000 in
theorem bw1_in (F : Fence) (n : Nat) (hf : F.fn 83) (hro : F.round = none) (hn : 1 ≤ n) (l Bs b len cap : Nat) (cur : Array Value) (vs : Nat → List Value) (hlen : len ≤ 1048576) (J Jx : List Nat → World → Prop)
  (hvs : ∀ k, (vs k).length = 9) (hcur : ∀ k, k < len → ∀ i u, (vs k)[i]? = some u → cur[k * 9 + i]? = some u)
  (hY : ∀ pre x W, J pre W → pre.length < len → YieldAt F (n - 1) Tryz.prog l #[.int .i64 (x : Nat), .agg (vs x).toArray] W fun e W' =>
   (e = .returned (.bool true) ∧ J (pre ++ [x]) W' ∧ ChT W W') ∨ (e = .returned (.bool false) ∧ Jx (pre ++ [x]) W'))
  (W : World) (hBs : W.heap[Bs]? = some (.cells #[.slice (some ⟨b, 0, none⟩) len cap] 55 (0, 0))) (hcb : W.heap[b]? = some (.cells cur 57 (0, 0))) (h0 : J [] W) :
  CallsIn F n Tryz.prog 83 #[.func (.yield l) #[] #[], .pointer (some ⟨Bs, 0, none⟩)] W fun e W' => (∃ v, e = .returned v) ∧
   ((∃ ys, ys = downL len len ∧ J ys W') ∨ (∃ pre, (∃ k, k ≤ len ∧ pre = downL len k) ∧ Jx pre W')) := by
 have HCB := Lib.hid hcb
 have HBS := Lib.hid hBs
 have hbs0 : W.cell? ⟨Bs, 0, none⟩ = some (.slice (some ⟨b, 0, none⟩) len cap) := (Lib.cell_of_heap hBs 0).trans rfl
 have HCUR := Lib.hid hcur
 have HVS := Lib.hid hvs
 have HY := Lib.hid hY
 clear hcb hcur hvs hY hBs
 refine callsIn_of_wp Tryz.func83 rfl hf ?_ hro
 simp only [Tryz.ntmps83, List.size_toArray, List.length_cons, List.length_nil, Nat.reduceAdd, Nat.reduceSub, Array.replicate_succ, Array.replicate_zero, List.push_toArray, List.append_toArray, List.nil_append, List.cons_append]
 gi_wp2
 gi_loopw [3] (fun i wr => ∃ (k : Nat) (q : Int), k ≤ len ∧ q = (len : Int) - 1 - k ∧ i = .int .i64 q ∧ J (downL len k) wr ∧ ChT W wr)
  (fun i _ => (intOf i + 1).toNat)
 case atStart => exact ⟨0, _, Nat.zero_le _, by simp, rfl, h0, ChT.refl _⟩
 case round =>
  obtain ⟨k, q, hk, hq, rfl, hJs, hnx⟩ := hrel
  have hbs : wr.cell? ⟨Bs, 0, none⟩ = some (.slice (some ⟨b, 0, none⟩) len cap) := (Lib.cell_of_heap (hnx.blk HBS.out (by decide) (by decide) (by decide)) 0).trans rfl
  by_cases hlt : k < len
  ·obtain ⟨j, hj⟩ : ∃ j, j = len - 1 - k := ⟨_, rfl⟩
   obtain rfl : q = (j : Int) := by omega
   have hjl : (j : Int) < (len : Int) := by omega
   have hj0 : (0 : Int) ≤ (j : Int) := by omega
   have HX : Hid (wr.heap[b]? = some (.cells cur 57 (0, 0))) := Lib.hid (hnx.blk HCB.out (by decide) (by decide) (by decide))
   have hbl := lt_blkB HX.out
   have HP : Hid (∀ i u, (vs j)[i]? = some u → cur[j * 9 + i]? = some u) := Lib.hid (HCUR.out j (by omega))
   have HV : Hid ((vs j).length = 9) := Lib.hid (HVS.out j)
   have HD : Hid (downL len (k + 1) = downL len k ++ [j]) := Lib.hid (by rw [downL_succ, hj])
   obtain ⟨fn, tmps, assign, body, hy, hR⟩ := HY.out _ j wr hJs (by rw [dnL_len]; exact hlt)
   have HQ := Lib.hid hq
   have HJ := Lib.hid hj
   clear hq hj hJs
   gi_wp2_with (first | (refine wpListIn_load_part rfl 57 _ rfl b (j * 9) rfl _ cur (vs j) (0, 0) _ HX.out HP.out Tryz.underlying57 rfl (by rw [HV.out]; exact nre_size) ?_) | fail)
   refine hR.mono ?_
   rintro e W3 (⟨rfl, hJ3, hk3⟩ | ⟨rfl, hJx3⟩)
   ·gi_wp2
    go_roundw
    case rel => exact ⟨k + 1, _, by omega, by have := HQ.out; omega, rfl, by rw [HD.out]; exact hJ3, hnx.trans hk3⟩
    case measure => simp [intOf]
   ·gi_wp2
    refine bodyPost_ret (results_none rfl _ _ _) rfl ?_
    exact ⟨⟨_, rfl⟩, .inr ⟨_, ⟨k + 1, by omega, HD.out.symm⟩, hJx3⟩⟩
  ·obtain rfl : k = len := by omega
   obtain rfl : q = -1 := by omega
   gi_wp2
   go_end0
   exact ⟨⟨_, rfl⟩, .inl ⟨_, rfl, hJs⟩⟩
set_option maxHeartbeats 2000000 in
theorem bw1_nil_in (F : Fence) (n : Nat) (hf : F.fn 83) (hro : F.round = none) (l Bs : Nat) (a : Option Addr) (cap : Nat) (J : List Nat → World → Prop) (W : World) (hBs : W.cell? ⟨Bs, 0, none⟩ = some (.slice a 0 cap)) (h0 : J [] W) :
  CallsIn F n Tryz.prog 83 #[.func (.yield l) #[] #[], .pointer (some ⟨Bs, 0, none⟩)] W fun e W' => (∃ v, e = .returned v) ∧ J [] W' := by
 refine callsIn_of_wp Tryz.func83 rfl hf ?_ hro
 simp only [Tryz.ntmps83, List.size_toArray, List.length_cons, List.length_nil, Nat.reduceAdd, Nat.reduceSub, Array.replicate_succ, Array.replicate_zero, List.push_toArray, List.append_toArray, List.nil_append, List.cons_append]
 gi_wp2
 gi_loopw [3] (fun i wr => i = .int .i64 (-1) ∧ J [] wr) (fun _ _ => 0)
 case atStart => exact ⟨rfl, h0⟩
 case round =>
  obtain ⟨rfl, hJs⟩ := hrel
  gi_wp2
  go_end0
  exact ⟨⟨_, rfl⟩, hJs⟩
set_option maxHeartbeats 1000000 in
theorem bw_any (a : Option Addr) (len cap : Nat) (w : World) :
  Calls Tryz.prog 66 #[.slice a len cap] w fun e w' => e = .returned (.func (.func 83) #[] #[.pointer (some ⟨w.heap.size, 0, none⟩)]) ∧ w' = w.alloc (.cells #[.slice a len cap] 55) := by
 go_enter Tryz.func66, Tryz.ntmps66
 go_wp2
 go_ret
 exact ⟨rfl, rfl⟩
theorem bw_stops (F : Fence) (n : Nat) (hf : F.fn 83) (hro : F.round = none) (hn : 1 ≤ n) (Bs len cap : Nat) (sa : Option Addr) (vs : Nat → List Value) (hlen : len ≤ 1048576) (w : World)
  (hc : w.heap[Bs]? = some (.cells #[.slice sa len cap] 55 (0, 0))) (hvs : ∀ k, (vs k).length = 9)
  (hI : len = 0 ∨ ∃ b cur, sa = some ⟨b, 0, none⟩ ∧ w.heap[b]? = some (.cells cur 57 (0, 0)) ∧ ∀ k, k < len → ∀ i u, (vs k)[i]? = some u → cur[k * 9 + i]? = some u) :
  SeqStopsK F n Tryz.prog 83 #[.pointer (some ⟨Bs, 0, none⟩)] (fun x : Nat => #[Value.int .i64 (x : Nat), .agg (vs x).toArray]) ChT (fun ys => ys = downL len len) (fun pre => ∃ k, k ≤ len ∧ pre = downL len k) len w := fun l J Jx W hW _ _ hY h0 => by
 have hc' := blk_below hc hW
 rcases hI with rfl | ⟨b, cur, rfl, hcb, hcur⟩
 ·exact (bw1_nil_in F n hf hro l Bs sa cap J W ((Lib.cell_of_heap hc' 0).trans rfl) h0).mono fun e W' ⟨he, hj⟩ => ⟨he, .inl ⟨_, rfl, hj⟩⟩
 ·exact bw1_in F n hf hro hn l Bs b len cap cur vs hlen J Jx hvs hcur hY W hc' (blk_below hcb hW) h0
end Go.Proofs.YtnpkcllbpnmabaaGreatDoor
