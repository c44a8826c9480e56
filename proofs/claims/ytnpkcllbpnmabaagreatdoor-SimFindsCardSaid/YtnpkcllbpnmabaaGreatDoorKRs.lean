import Derived.Test.YtnpkcllbpnmabaaGreatDoorKRm
import Derived.Test.YtnpkcllbpnmabaaGreatDoorKPu
import Derived.Laws.CopyOwn
import Derived.Deep.LoopGhost
import Derived.Test.YtnpkcllbpnmabaaGreatDoorKLi
namespace Go.Proofs.YtnpkcllbpnmabaaGreatDoor
set_option maxHeartbeats 8000000
set_option maxRecDepth 100000
open Go.RowKit
theorem wpList_store_re {ops : Array Oper} {rest : List Oper} {o : Oper} {a : Act} {w : World} {Q : Exit → Act → World → Prop} (hgd : o.guard = none) (x y : Operand) (ho : o.op = .store 57 x y)
  (hd : o.dst = none) (g : Nat) (n : Nd) (A : Option Addr) (m c : Nat) (hx : a.eval x = .pointer (some ⟨g, 0, none⟩)) (hy : a.eval y = n.v (.slice A m c))
  (old : Array Value) (hg : w.heap[g]? = some (.cells old 57 (0, 0))) (hold : old.size = 9)
  (h : wpList Tryz.prog ops Q rest a (w.setRow g (n.cells (.slice A m c)).toArray)) : wpList Tryz.prog ops Q (o :: rest) a w :=
 wpList_store_rowTo hgd _ x y ho hd g _ hx hy _ old hg re_size hold (by simp [Nd.cells, Value.oneCell']) h
theorem results_re2 {fn : Func} {p q : Tmp} (h : fn.results = #[.cell p 57, .tmp q]) (tmps : Array Value) (w : World) (g : Nat) (n : Nd) (kv v : Value)
  (hp : tmps.getD p undef = .pointer (some ⟨g, 0, none⟩)) (hq : tmps.getD q undef = v) (hg : w.heap[g]? = some (.cells (n.cells kv).toArray 57 (0, 0))) :
  (results fn tmps).run Tryz.prog w = .ok (.tuple #[n.v kv, v]) w := by
 have hp' : tmps[p]?.getD undef = .pointer (some ⟨g, 0, none⟩) := by simpa using hp
 have hq' : tmps[q]?.getD undef = v := by simpa using hq
 have hl := run_loadVar_row (P := Tryz.prog) w g 57 57 (n.cells kv).toArray (0, 0) _ hg Tryz.underlying57 rfl re_size
 simp [results, h, hp', hq', asAddr, hl, Nd.v]
theorem results_re1 {fn : Func} {p : Tmp} (h : fn.results = #[.cell p 57]) (tmps : Array Value) (w : World) (g : Nat) (n : Nd) (kv : Value)
  (hp : tmps.getD p undef = .pointer (some ⟨g, 0, none⟩)) (hg : w.heap[g]? = some (.cells (n.cells kv).toArray 57 (0, 0))) :
  (results fn tmps).run Tryz.prog w = .ok (n.v kv) w :=
 results_cell_row h tmps w g _ _ (0, 0) _ hp hg Tryz.underlying57 rfl re_size
theorem setRow_selfR {w : World} {g : Nat} {old : Array Value} {T : TypeId} {z : Nat × Nat} (h : w.heap[g]? = some (.cells old T z)) (c : Array Value) : (w.setRow g c).heap[g]? = some (.cells c T z) := setRow_heap w g old c T z h
def zero9 : Array Value := #[.int .i64 0, .int .u64 0, .int .u64 0, .int .u64 0, .int .u64 0, .int .i64 0, .int .i64 0, .int .i64 0, .slice none 0 0]
theorem zero9_n : (zeroN.cells nilS).toArray = zero9 := by
 unfold Nd.cells
 have z : ∀ i, ((sw zeroN.p i : Nat) : Int) = 0 := sw_zero
 rw [z, z, z, z]
 rfl
theorem zero9_v : zeroN.v nilS = .agg zero9 := by unfold Nd.v; rw [zero9_n]
def sgB (k : Nat) (t : ByteArray) : Array Value := #[.int .i64 0, .int .i64 k, .string t, .int .i64 0, .int .u64 0, .int .u64 0, .int .u64 0, .int .u64 0, .int .i64 0, .int .i64 0, .int .i64 0, .slice none 0 0, .int .i64 0, .int .i64 0, .nilIface]
def LitPost (e : Nat → Addr) (ext : Bool) (k : Nat) (r : LT) (w : World) (x : Ending) (w' : World) : Prop :=
 match r with
 | .byt c => x = .returned (.tuple #[(setN (mem [c])).v nilS, .nilIface]) ∧ Below w.heap.size w w'
 | .bad c => ∃ b, x = .returned (.tuple #[zeroN.v nilS, .iface 86 (.pointer (some ⟨b, 0, none⟩))]) ∧ ErrQ w' e ext c k (.iface 86 (.pointer (some ⟨b, 0, none⟩))) ∧ Below w.heap.size w w'
theorem ofBys_get {t : List Int} (ht : Byt t) (i : Nat) (h : i < (ofBys t).size) : (((ofBys t)[i]'h).toNat : Int) = t.getD i 0 := by
 have := bys_getD (ofBys t) i h
 rw [bys_ofBys ht] at this
 exact this.symm
theorem literal_any (e : Nat → Addr) (B : Nat) (t : List Int) (ht : Byt t) (hne : t ≠ []) (hlen : t.length ≤ 2) (hsh : ¬ t.getD 0 0 = 92 → t = [t.getD 0 0]) (ext : Bool) (k : Nat) (w : World) (he : Es w B e) :
  Calls Tryz.prog 54 #[.agg (sgB k (ofBys t)), .bool ext] w (LitPost e ext k (litR t ext) w) := by
 have h0 : 0 < (ofBys t).size := by rw [ofBys_size]; exact List.length_pos_iff.2 hne
 have hsz2 : (ofBys t).size ≤ 2 := by rw [ofBys_size]; exact hlen
 have HOF : ∀ (s : ByteArray) (l : List Int) (X : World), bys s = l → s.size ≤ 9223372036854775807 → Hid (Calls Tryz.prog 73 #[.string s] X fun x w' => x = .returned (.agg #[.int .u64 (sw (mem l) 0 : Nat), .int .u64 (sw (mem l) 1 : Nat), .int .u64 (sw (mem l) 2 : Nat), .int .u64 (sw (mem l) 3 : Nat)]) ∧ Below X.heap.size X w') := fun s l X hl hs => Lib.hid (by subst hl; exact of_any s X hs)
 have HSO : ∀ (l : List Int) (X : World), Hid (Calls Tryz.prog 55 #[.agg #[.int .u64 (sw (mem l) 0 : Nat), .int .u64 (sw (mem l) 1 : Nat), .int .u64 (sw (mem l) 2 : Nat), .int .u64 (sw (mem l) 3 : Nat)]] X fun x w' => x = .returned ((setN (mem l)).v (.slice none 0 0)) ∧ Below X.heap.size X w') := fun l X => Lib.hid (setOf_any (mem l) X)
 have HOFH := Lib.hid HOF
 have HSOH := Lib.hid HSO
 obtain ⟨W0, hW0⟩ : ∃ W0, W0 = (w.alloc (.cells (sgB k (ofBys t)) 63)).alloc (.cells zero9 57) := ⟨_, rfl⟩
 have HB0 : Hid (Below w.heap.size w W0) := Lib.hid (by rw [hW0]; exact ((Below.refl _ _).alloc (Nat.le_refl _) _).alloc (by simp) _)
 have HES : Hid (Es W0 B e) := Lib.hid (he.below (HB0.out.mono he.big))
 have HS0 : Hid (W0.heap[w.heap.size]? = some (.cells (sgB k (ofBys t)) 63)) := Lib.hid (by rw [hW0]; exact blk_alloc (alloc_last w _) _)
 have HR0 : Hid (W0.heap[w.heap.size + 1]? = some (.cells zero9 57)) := Lib.hid (by rw [hW0]; have := alloc_last (w.alloc (.cells (sgB k (ofBys t)) 63)) (.cells zero9 57); simpa using this)
 have hz0 : W0.heap.size = w.heap.size + 2 := by rw [hW0]; simp
 have c1 : W0.cell? ⟨w.heap.size, 1, none⟩ = some (.int .i64 k) := (Lib.cell_of_heap HS0.out 1).trans rfl
 have c2 : W0.cell? ⟨w.heap.size, 2, none⟩ = some (.string (ofBys t)) := (Lib.cell_of_heap HS0.out 2).trans rfl
 have HWE := Lib.hid hW0
 have hlt : w.heap.size < W0.heap.size := by omega
 have HZ := Lib.hid hz0
 clear he HOF HSO hW0 hz0
 unfold sgB zero9 at HWE
 unfold sgB
 by_cases h92 : t.getD 0 0 = 92
 ·have hx : ((((ofBys t)[0]'h0).toNat : Int) != 92) = false := by rw [ofBys_get ht 0 h0, h92]; rfl
  have hy : (ofBys t).size = t.length := ofBys_size t
  have HIT : ∀ h : 1 < (ofBys t).size, (((ofBys t)[1]'h).toNat : Int) = t.getD 1 0 := fun h => ofBys_get ht 1 h
  by_cases h110 : t = [92, 110]
  ·have f1 : ((ofBys t).toList == [92, 110]) = true := by rw [tlR ht]; exact decide_eq_true h110
   have HL : Hid (litR t ext = .byt 10) := Lib.hid (by rw [h110]; rfl)
   rw [HL.out]
   clear h92 h110 hsh hy HIT
   go_enter Tryz.func54, Tryz.ntmps54
   go_wp2_with fail
   rw [← HWE.out]
   go_wp2_with fail
   refine (HOFH.out _ [10] _ rfl (by decide)).out.mono ?_
   rintro x w1 ⟨rfl, hb1⟩
   have HR1 : Hid (w1.heap[w.heap.size + 1]? = some (.cells zero9 57)) := Lib.hid (blk_below HR0.out hb1)
   have HB1 := Lib.hid (below_thn HB0.out (Nat.le_refl _) hb1)
   clear hb1
   go_wp2_with fail
   refine (HSOH.out [10] _).out.mono ?_
   rintro x w2 ⟨rfl, hb2⟩
   have HR2 : Hid (w2.heap[w.heap.size + 1]? = some (.cells zero9 57)) := Lib.hid (blk_below HR1.out hb2)
   have HB2 := Lib.hid (below_thn HB1.out (Nat.le_refl _) hb2)
   clear hb2
   go_wp2_with (refine wpList_store_re rfl _ _ rfl rfl (w.heap.size + 1) (setN (mem [10])) none 0 0 rfl rfl _ HR2.out rfl ?_)
   refine bodyPost_ret (results_re2 rfl _ _ (w.heap.size + 1) (setN (mem [10])) nilS .nilIface rfl rfl (setRow_selfR HR2.out _)) rfl ⟨?_, below_setRow HB2.out (Nat.le_succ _) _⟩
   rfl
  have f1 : ((ofBys t).toList == [92, 110]) = false := by rw [tlR ht]; exact decide_eq_false h110
  by_cases h125 : t = [92, 125] ∧ ext = false
  ·have f2 : ((ofBys t).toList == [92, 125]) = true := by rw [tlR ht]; exact decide_eq_true h125.1
   have HL : Hid (litR t ext = .bad 3) := Lib.hid (by rw [h125.1, h125.2]; rfl)
   have HRF := Lib.hid (refz_err e ext B W0 HES.out 3 k (by simp))
   rw [HL.out]
   have hext := h125.2
   subst hext
   clear h92 h110 hsh hy HIT h125
   go_enter Tryz.func54, Tryz.ntmps54
   go_wp2_with fail
   rw [← HWE.out]
   go_wp2_with fail
   refine (HRF.out).mono ?_
   rintro x w1 ⟨b, rfl, he1, hb1⟩
   have HR1 : Hid (w1.heap[w.heap.size + 1]? = some (.cells zero9 57)) := Lib.hid (blk_below HR0.out hb1)
   have HB1 := Lib.hid (below_thn HB0.out (Nat.le_refl _) hb1)
   have HE1 := Lib.hid he1
   clear hb1 he1
   go_wp2_with (refine wpList_store_re rfl _ _ rfl rfl (w.heap.size + 1) zeroN none 0 0 rfl zero9_v.symm _ HR1.out rfl ?_)
   refine bodyPost_ret (results_re2 rfl _ _ (w.heap.size + 1) zeroN nilS (.iface 86 (.pointer (some ⟨b, 0, none⟩))) rfl rfl (setRow_selfR HR1.out _)) rfl ⟨b, rfl, ?_, below_setRow HB1.out (Nat.le_succ _) _⟩
   exact HE1.out.kept (by simp) fun j cs T hT hj => setRow_other _ _ _ _ (fun hjg => by
    subst hjg
    rw [HR1.out] at hj
    simp only [Option.some.injEq, Obj.cells.injEq] at hj
    rcases hT with h | h | h <;> rw [h] at hj <;> exact absurd hj.2.1 (by decide))
  have HL0 : litR t ext = if 1 < t.length ∧ mayQ (t.getD 1 0) ext = true then .byt (t.getD 1 0) else .bad 10 := by unfold litR; rw [if_neg (by simpa using h92), if_neg h110, if_neg h125]
  rw [HL0]
  clear HL0
  have f2 : (((ofBys t).toList == [92, 125]) = true ∧ ext = true) ∨ ((ofBys t).toList == [92, 125]) = false := by
   by_cases hb : t = [92, 125]
   ·left
    refine ⟨by rw [tlR ht]; exact decide_eq_true hb, ?_⟩
    cases ext with
    | true => rfl
    | false => exact absurd ⟨hb, rfl⟩ h125
   ·right; rw [tlR ht]; exact decide_eq_false hb
  by_cases h1 : 1 < t.length
  ·have h1s : 1 < (ofBys t).size := by omega
   have h1i : (1 : Int) < ((ofBys t).size : Int) := by omega
   have hext1 : Hid (bys ((ofBys t).extract 1 (ofBys t).size) = [t.getD 1 0]) := Lib.hid (by
    rw [bys_extract, bys_ofBys ht, ofBys_size]
    match t, h1, hlen with
    | [a, b], _, _ => rfl)
   have hMQ : ∀ X : World, Hid (Calls Tryz.prog 11 #[.int .u8 (((ofBys t)[1]'h1s).toNat : Int), .bool ext] X fun x w' => x = .returned (.bool (mayQ (t.getD 1 0) ext)) ∧ w' = X) := fun X => Lib.hid (by
    have := mayQ_any (((ofBys t)[1]'h1s).toNat : Int) ext X
    rw [HIT h1s] at this ⊢
    exact this)
   have hMQH := Lib.hid hMQ
   generalize t.getD 1 0 = d at *
   cases hq : mayQ d ext with
   | true =>
    rw [hq] at hMQH
    rw [if_pos ⟨h1, rfl⟩]
    clear h92 h110 h125 hsh hy HIT hMQ hq
    rcases f2 with ⟨f2, f2'⟩ | f2
    all_goals
     try subst f2'
     go_enter Tryz.func54, Tryz.ntmps54
     go_wp2_with fail
     rw [← HWE.out]
     go_wp2_with fail
     refine (hMQH.out _).out.mono ?_
     rintro x w9 ⟨rfl, rfl⟩
     go_wp2_with fail
     refine (HOFH.out _ [d] _ hext1.out (by have := ByteArray.size_extract (b := 1) (e := (ofBys t).size) (a := ofBys t); omega)).out.mono ?_
     rintro x w1 ⟨rfl, hb1⟩
     have HR1 : Hid (w1.heap[w.heap.size + 1]? = some (.cells zero9 57)) := Lib.hid (blk_below HR0.out hb1)
     have HB1 := Lib.hid (below_thn HB0.out (Nat.le_refl _) hb1)
     clear hb1
     go_wp2_with fail
     refine (HSOH.out [d] _).out.mono ?_
     rintro x w2 ⟨rfl, hb2⟩
     have HR2 : Hid (w2.heap[w.heap.size + 1]? = some (.cells zero9 57)) := Lib.hid (blk_below HR1.out hb2)
     have HB2 := Lib.hid (below_thn HB1.out (Nat.le_refl _) hb2)
     clear hb2
     go_wp2_with (refine wpList_store_re rfl _ _ rfl rfl (w.heap.size + 1) (setN (mem [d])) none 0 0 rfl rfl _ HR2.out rfl ?_)
     refine bodyPost_ret (results_re2 rfl _ _ (w.heap.size + 1) (setN (mem [d])) nilS .nilIface rfl rfl (setRow_selfR HR2.out _)) rfl ⟨?_, below_setRow HB2.out (Nat.le_succ _) _⟩
     rfl
   | false =>
    rw [hq] at hMQH
    rw [if_neg (fun h => by cases h.2)]
    have HRF := Lib.hid (refz_err e ext B W0 HES.out 10 k (by simp))
    clear h92 h110 h125 hsh hy HIT hMQ hq
    rcases f2 with ⟨f2, f2'⟩ | f2
    all_goals
     try subst f2'
     go_enter Tryz.func54, Tryz.ntmps54
     go_wp2_with fail
     rw [← HWE.out]
     go_wp2_with fail
     refine (hMQH.out _).out.mono ?_
     rintro x w9 ⟨rfl, rfl⟩
     go_wp2_with fail
     refine (HRF.out).mono ?_
     rintro x w1 ⟨b, rfl, he1, hb1⟩
     have HR1 : Hid (w1.heap[w.heap.size + 1]? = some (.cells zero9 57)) := Lib.hid (blk_below HR0.out hb1)
     have HB1 := Lib.hid (below_thn HB0.out (Nat.le_refl _) hb1)
     have HE1 := Lib.hid he1
     clear hb1 he1
     go_wp2_with (refine wpList_store_re rfl _ _ rfl rfl (w.heap.size + 1) zeroN none 0 0 rfl zero9_v.symm _ HR1.out rfl ?_)
     refine bodyPost_ret (results_re2 rfl _ _ (w.heap.size + 1) zeroN nilS (.iface 86 (.pointer (some ⟨b, 0, none⟩))) rfl rfl (setRow_selfR HR1.out _)) rfl ⟨b, rfl, ?_, below_setRow HB1.out (Nat.le_succ _) _⟩
     exact HE1.out.kept (by simp) fun j cs T hT hj => setRow_other _ _ _ _ (fun hjg => by
      subst hjg
      rw [HR1.out] at hj
      simp only [Option.some.injEq, Obj.cells.injEq] at hj
      rcases hT with h | h | h <;> rw [h] at hj <;> exact absurd hj.2.1 (by decide))
  ·have h1i : ¬ (1 : Int) < ((ofBys t).size : Int) := by omega
   have h1d : decide ((1 : Int) < ((ofBys t).size : Int)) = false := decide_eq_false h1i
   rw [if_neg (fun h => h1 h.1)]
   have HRF := Lib.hid (refz_err e ext B W0 HES.out 10 k (by simp))
   clear h92 h110 h125 hsh hy HIT h1
   rcases f2 with ⟨f2, f2'⟩ | f2
   all_goals
    try subst f2'
    go_enter Tryz.func54, Tryz.ntmps54
    go_wp2_with fail
    rw [← HWE.out]
    go_wp2_with fail
    refine (HRF.out).mono ?_
    rintro x w1 ⟨b, rfl, he1, hb1⟩
    have HR1 : Hid (w1.heap[w.heap.size + 1]? = some (.cells zero9 57)) := Lib.hid (blk_below HR0.out hb1)
    have HB1 := Lib.hid (below_thn HB0.out (Nat.le_refl _) hb1)
    have HE1 := Lib.hid he1
    clear hb1 he1
    go_wp2_with (refine wpList_store_re rfl _ _ rfl rfl (w.heap.size + 1) zeroN none 0 0 rfl zero9_v.symm _ HR1.out rfl ?_)
    refine bodyPost_ret (results_re2 rfl _ _ (w.heap.size + 1) zeroN nilS (.iface 86 (.pointer (some ⟨b, 0, none⟩))) rfl rfl (setRow_selfR HR1.out _)) rfl ⟨b, rfl, ?_, below_setRow HB1.out (Nat.le_succ _) _⟩
    exact HE1.out.kept (by simp) fun j cs T hT hj => setRow_other _ _ _ _ (fun hjg => by
     subst hjg
     rw [HR1.out] at hj
     simp only [Option.some.injEq, Obj.cells.injEq] at hj
     rcases hT with h | h | h <;> rw [h] at hj <;> exact absurd hj.2.1 (by decide))
 ·have hx : ((((ofBys t)[0]'h0).toNat : Int) != 92) = true := by rw [ofBys_get ht 0 h0]; exact bne_iff_ne.2 h92
  have HL : Hid (litR t ext = .byt (t.getD 0 0)) := Lib.hid (by unfold litR; rw [if_pos h92])
  rw [HL.out]
  have HT : Hid (mem t = mem [t.getD 0 0]) := Lib.hid (congrArg mem (hsh h92))
  clear h92 hsh
  go_enter Tryz.func54, Tryz.ntmps54
  go_wp2_with fail
  rw [← HWE.out]
  go_wp2_with fail
  refine (HOFH.out _ t _ (bys_ofBys ht) (by omega)).out.mono ?_
  rintro x w1 ⟨rfl, hb1⟩
  have HR1 : Hid (w1.heap[w.heap.size + 1]? = some (.cells zero9 57)) := Lib.hid (blk_below HR0.out hb1)
  have HB1 := Lib.hid (below_thn HB0.out (Nat.le_refl _) hb1)
  clear hb1
  go_wp2_with fail
  refine (HSOH.out t _).out.mono ?_
  rintro x w2 ⟨rfl, hb2⟩
  have HR2 : Hid (w2.heap[w.heap.size + 1]? = some (.cells zero9 57)) := Lib.hid (blk_below HR1.out hb2)
  have HB2 := Lib.hid (below_thn HB1.out (Nat.le_refl _) hb2)
  clear hb2
  go_wp2_with (refine wpList_store_re rfl _ _ rfl rfl (w.heap.size + 1) (setN (mem t)) none 0 0 rfl rfl _ HR2.out rfl ?_)
  refine bodyPost_ret (results_re2 rfl _ _ (w.heap.size + 1) (setN (mem t)) nilS .nilIface rfl rfl (setRow_selfR HR2.out _)) rfl ⟨?_, below_setRow HB2.out (Nat.le_succ _) _⟩
  rw [HT.out]
theorem whileR_any (b k : Nat) (s t : ByteArray) (w : World) (h : Cur w b s k) (ht : t.size ≤ 9223372036854775807) :
  Calls Tryz.prog 91 #[.pointer (some ⟨b, 0, none⟩), .string t] w (PassOut w b s k (passN s t true k)) := by
 have HP := Lib.hid (pass_any b k s t true w h ht)
 clear h
 go_enter Tryz.func91, Tryz.ntmps91
 go_wp2_with fail
 refine HP.out.mono ?_
 rintro e w1 ⟨nb, cap, rfl, h1, h2, h3, h4⟩
 have H1 := Lib.hid h1
 have H4 := Lib.hid h4
 clear h1 h4
 go_wp2
 go_ret
 exact ⟨nb, cap, rfl, H1.out, h2, h3, H4.out⟩
theorem dgs_len (l : List Int) (k : Nat) (hk : k ≤ l.length) : (dgs l k).length = nD l k := by
 have := nD_le l k hk
 unfold dgs
 rw [List.length_take, List.length_drop]
 omega
set_option maxHeartbeats 4000000 in
theorem number_any (cb k : Nat) (l : List Int) (hl : Byt l) (w : World) (h : Cur w cb (ofBys l) k) :
  Calls Tryz.prog 76 #[.pointer (some ⟨cb, 0, none⟩)] w fun x w' => x = .returned (.tuple #[.int .i64 (numV l k), .bool (numOk l k)]) ∧ Mv cb (ofBys l) (k + nD l k) w w' := by
 have hk := h.2.1
 rw [ofBys_size] at hk
 have hdl := dgs_len l k hk
 have HW : Hid (Calls Tryz.prog 91 #[.pointer (some ⟨cb, 0, none⟩), .string ⟨#[48, 49, 50, 51, 52, 53, 54, 55, 56, 57]⟩] w (PassOut w cb (ofBys l) k (nD l k))) := Lib.hid (whileR_any cb k (ofBys l) dgtB w h (by decide))
 have HDG : Hid (((bys (ofBys l)).drop k).take (nD l k) = dgs l k) := Lib.hid (by rw [bys_ofBys hl]; rfl)
 have hbd : Byt (dgs l k) := by
  unfold dgs
  refine byt_ofR fun c hc => ?_
  have hc' : c ∈ l := List.mem_of_mem_drop (List.mem_of_mem_take hc)
  obtain ⟨i, hi, rfl⟩ := List.getElem_of_mem hc'
  have := hl i
  rw [List.getD_eq_getElem?_getD, List.getElem?_eq_getElem hi] at this
  exact this
 have HWO : ∀ X : World, Hid (Calls Tryz.prog 92 #[.string (ofBys (dgs l k))] X fun x w' => x = .returned (.tuple #[.int .i64 (wV (dgs l k)), .bool (wOk (dgs l k))]) ∧ X = w') := fun X => Lib.hid (by
  have hz := h.2.2
  have := whole_any (ofBys (dgs l k)) X (by rw [ofBys_size, hdl] ; have := nD_le l k hk; rw [ofBys_size] at hz; omega)
  rw [bys_ofBys hbd] at this
  exact this)
 have HWOH := Lib.hid HWO
 have hN : nD l k ≤ l.length := by have := nD_le l k hk; omega
 have hlz := h.2.2
 rw [ofBys_size] at hlz
 have HOK : Hid (numOk l k = (wOk (dgs l k) && decide (nD l k ≤ 3) && decide (wV (dgs l k) ≤ 255))) := Lib.hid (by unfold numOk; rw [hdl])
 rw [HOK.out]
 have HV : Hid (numV l k = wV (dgs l k)) := Lib.hid rfl
 rw [HV.out]
 generalize wV (dgs l k) = v at *
 generalize hq1 : wOk (dgs l k) = q1 at *
 generalize nD l k = n at *
 clear hdl h hbd HWO hq1 HOK HV
 cases q1 with
 | false =>
  rw [Bool.false_and, Bool.false_and]
  go_enter Tryz.func76, Tryz.ntmps76
  go_wp2_with fail
  refine HW.out.mono ?_
  rintro x w1 ⟨nb, cap, rfl, hs1, hnb, hnb2, hm1⟩
  rw [HDG.out] at hs1
  have hcv := conv_string hs1
  have HM1 := Lib.hid hm1
  clear hs1 hm1
  go_wp2_with fail
  refine (HWOH.out _).out.mono ?_
  rintro x w2 ⟨rfl, rfl⟩
  clear hcv
  go_wp2
  go_ret2
  exact ⟨rfl, HM1.out⟩
 | true =>
  rw [Bool.true_and]
  by_cases h3 : n ≤ 3
  ·have h3i : (n : Int) ≤ 3 := by omega
   rw [decide_eq_true h3, Bool.true_and]
   by_cases hv : v ≤ 255
   ·rw [decide_eq_true hv]
    go_enter Tryz.func76, Tryz.ntmps76
    go_wp2_with fail
    refine HW.out.mono ?_
    rintro x w1 ⟨nb, cap, rfl, hs1, hnb, hnb2, hm1⟩
    rw [HDG.out] at hs1
    have hcv := conv_string hs1
    have HM1 := Lib.hid hm1
    clear hs1 hm1
    go_wp2_with fail
    refine (HWOH.out _).out.mono ?_
    rintro x w2 ⟨rfl, rfl⟩
    clear hcv
    go_wp2
    go_ret2
    exact ⟨rfl, HM1.out⟩
   ·rw [decide_eq_false hv]
    have hve : decide (v ≤ 255) = false := decide_eq_false hv
    go_enter Tryz.func76, Tryz.ntmps76
    go_wp2_with fail
    refine HW.out.mono ?_
    rintro x w1 ⟨nb, cap, rfl, hs1, hnb, hnb2, hm1⟩
    rw [HDG.out] at hs1
    have hcv := conv_string hs1
    have HM1 := Lib.hid hm1
    clear hs1 hm1
    go_wp2_with fail
    refine (HWOH.out _).out.mono ?_
    rintro x w2 ⟨rfl, rfl⟩
    clear hcv
    go_wp2
    go_ret2
    exact ⟨rfl, HM1.out⟩
  ·rw [decide_eq_false h3, Bool.false_and]
   have h3e : decide ((n : Int) ≤ 3) = false := decide_eq_false (by omega)
   go_enter Tryz.func76, Tryz.ntmps76
   go_wp2_with fail
   refine HW.out.mono ?_
   rintro x w1 ⟨nb, cap, rfl, hs1, hnb, hnb2, hm1⟩
   rw [HDG.out] at hs1
   have hcv := conv_string hs1
   have HM1 := Lib.hid hm1
   clear hs1 hm1
   go_wp2_with fail
   refine (HWOH.out _).out.mono ?_
   rintro x w2 ⟨rfl, rfl⟩
   clear hcv
   go_wp2
   go_ret2
   exact ⟨rfl, HM1.out⟩
theorem begR (l e : List Int) (hl : Byt l) (he : Byt e) (k : Nat) : begB ((ofBys l).extract k (ofBys l).size) (ofBys e) = begAt l k e := by
 rw [begL, bys_ofBys hl, bys_ofBys he, ofBys_size]
 unfold begAt
 rw [Bool.eq_iff_iff]
 simp only [decide_eq_true_eq]
 constructor
 ·exact fun h => h.2
 ·intro h
  refine ⟨?_, h⟩
  have := congrArg List.length h
  rw [List.length_take] at this
  omega
theorem takeR (b k : Nat) (l e : List Int) (hl : Byt l) (he : Byt e) (hz : e.length ≤ 5) (w : World) (h : Cur w b (ofBys l) k) :
  Calls Tryz.prog 77 #[.pointer (some ⟨b, 0, none⟩), .string (ofBys e)] w fun x w' => x = .returned (.bool (begAt l k e)) ∧ Mv b (ofBys l) (if begAt l k e = true then k + e.length else k) w w' := by
 have := take_any b k (ofBys l) (ofBys e) w h (by rw [ofBys_size]; omega)
 rw [begR l e hl he, ofBys_size] at this
 exact this
def ItvPost (l : List Int) (ext : Bool) (cb k : Nat) (w : World) (x : Ending) (w' : World) : Prop :=
 match itv l ext k with
 | some (m, n, k2) => x = .returned (.tuple #[.int .i64 m, .int .i64 n, .bool true]) ∧ Mv cb (ofBys l) k2 w w'
 | none => ∃ m n k2, x = .returned (.tuple #[.int .i64 m, .int .i64 n, .bool false]) ∧ Mv cb (ofBys l) k2 w w'
theorem interval_any (cb k : Nat) (l : List Int) (hl : Byt l) (ext : Bool) (w : World) (h : Cur w cb (ofBys l) k) :
  Calls Tryz.prog 58 #[.pointer (some ⟨cb, 0, none⟩), .bool ext] w (ItvPost l ext cb k w) := by
 have HN : ∀ (j : Nat) (X : World), Cur X cb (ofBys l) j → Hid (Calls Tryz.prog 76 #[.pointer (some ⟨cb, 0, none⟩)] X fun x w' => x = .returned (.tuple #[.int .i64 (numV l j), .bool (numOk l j)]) ∧ Mv cb (ofBys l) (j + nD l j) X w') := fun j X hX => Lib.hid (number_any cb j l hl X hX)
 have HT : ∀ (e : List Int) (_ : Byt e) (_ : e.length ≤ 5) (j : Nat) (X : World), Cur X cb (ofBys l) j → Hid (Calls Tryz.prog 77 #[.pointer (some ⟨cb, 0, none⟩), .string (ofBys e)] X fun x w' => x = .returned (.bool (begAt l j e)) ∧ Mv cb (ofBys l) (if begAt l j e = true then j + e.length else j) X w') := fun e he hz j X hX => Lib.hid (takeR cb j l e hl he hz X hX)
 have HNH := Lib.hid HN
 have HTC : Hid (∀ (j : Nat) (X : World), Cur X cb (ofBys l) j → Hid (Calls Tryz.prog 77 #[.pointer (some ⟨cb, 0, none⟩), .string ⟨#[44]⟩] X fun x w' => x = .returned (.bool (begAt l j [44])) ∧ Mv cb (ofBys l) (if begAt l j [44] = true then j + 1 else j) X w')) := Lib.hid (fun j X hX => HT [44] (byt_ofR (fun c hc => by rw [List.mem_singleton.1 hc]; decide)) (by decide) j X hX)
 have HTE : Hid (∀ (j : Nat) (X : World), Cur X cb (ofBys l) j → Hid (Calls Tryz.prog 77 #[.pointer (some ⟨cb, 0, none⟩), .string (ofBys (shutT ext))] X fun x w' => x = .returned (.bool (begAt l j (shutT ext))) ∧ Mv cb (ofBys l) (if begAt l j (shutT ext) = true then j + (shutT ext).length else j) X w')) := Lib.hid (fun j X hX => HT (shutT ext) (byt_ofR (fun c hc => by cases ext <;> simp [shutT] at hc <;> omega)) (by cases ext <;> simp [shutT]) j X hX)
 have HC := Lib.hid h
 clear HN HT h
 unfold ItvPost itv
 generalize hl0 : numV l k = m at *
 obtain ⟨k1, hk1⟩ : ∃ k1, k1 = k + nD l k := ⟨_, rfl⟩
 have HN0 := HNH.out k w HC.out
 rw [hl0] at HN0
 rw [← hk1] at HN0 ⊢
 have HM0 := Lib.hid hl0
 clear hk1 hl0
 have hEXT : ∃ s, s = ofBys (shutT ext) := ⟨_, rfl⟩
 cases ext
 all_goals
  first
   | rw [show ofBys (shutT false) = ⟨#[92, 125]⟩ from rfl] at HTE
   | rw [show ofBys (shutT true) = ⟨#[125]⟩ from rfl] at HTE
  generalize shutT _ = E at *
  clear hEXT
  cases h1 : numOk l k with
  | false =>
   rw [h1] at HN0
   clear h1
   rw [if_pos rfl]
   go_enter Tryz.func58, Tryz.ntmps58
   go_wp2_with fail
   refine HN0.out.mono ?_
   rintro x w1 ⟨rfl, hm1⟩
   have HM1 := Lib.hid hm1
   clear hm1
   go_wp2
   go_ret3
   exact ⟨_, _, _, rfl, HM1.out⟩
  | true =>
   rw [h1] at HN0
   clear h1
   rw [if_neg (by decide)]
   have HA : Hid (∀ X, Cur X cb (ofBys l) k1 → Hid (Calls Tryz.prog 77 #[.pointer (some ⟨cb, 0, none⟩), .string _] X fun x w' => x = .returned (.bool (begAt l k1 E)) ∧ Mv cb (ofBys l) (if begAt l k1 E = true then k1 + E.length else k1) X w')) := Lib.hid (fun X hX => HTE.out k1 X hX)
   cases h2 : begAt l k1 E with
   | true =>
    rw [h2, if_pos rfl] at HA
    clear h2
    rw [if_pos rfl]
    go_enter Tryz.func58, Tryz.ntmps58
    go_wp2_with fail
    refine HN0.out.mono ?_
    rintro x w1 ⟨rfl, hm1⟩
    have HM1 := Lib.hid hm1
    clear hm1
    go_wp2_with fail
    refine (HA.out _ HM1.out.cur).out.mono ?_
    rintro x w2 ⟨rfl, hm2⟩
    have HM2 := Lib.hid (HM1.out.trans hm2)
    clear hm2
    go_wp2
    go_ret3
    exact ⟨rfl, HM2.out⟩
   | false =>
    rw [h2, if_neg (by decide)] at HA
    clear h2
    rw [if_neg (by decide)]
    have HB := Lib.hid (fun X hX => HTC.out k1 X hX)
    cases h3 : begAt l k1 [44] with
    | false =>
     rw [h3, if_neg (by decide)] at HB
     clear h3
     rw [if_pos rfl]
     go_enter Tryz.func58, Tryz.ntmps58
     go_wp2_with fail
     refine HN0.out.mono ?_
     rintro x w1 ⟨rfl, hm1⟩
     have HM1 := Lib.hid hm1
     clear hm1
     go_wp2_with fail
     refine (HA.out _ HM1.out.cur).out.mono ?_
     rintro x w2 ⟨rfl, hm2⟩
     have HM2 := Lib.hid (HM1.out.trans hm2)
     clear hm2
     go_wp2_with fail
     refine (HB.out _ HM2.out.cur).out.mono ?_
     rintro x w3 ⟨rfl, hm3⟩
     have HM3 := Lib.hid (HM2.out.trans hm3)
     clear hm3
     go_wp2
     go_ret3
     exact ⟨_, _, _, rfl, HM3.out⟩
    | true =>
     rw [h3, if_pos rfl] at HB
     clear h3
     rw [if_neg (by decide)]
     have HD := Lib.hid (fun X hX => HTE.out (k1 + 1) X hX)
     cases h4 : begAt l (k1 + 1) E with
     | true =>
      rw [h4, if_pos rfl] at HD
      clear h4
      rw [if_pos rfl]
      go_enter Tryz.func58, Tryz.ntmps58
      go_wp2_with fail
      refine HN0.out.mono ?_
      rintro x w1 ⟨rfl, hm1⟩
      have HM1 := Lib.hid hm1
      clear hm1
      go_wp2_with fail
      refine (HA.out _ HM1.out.cur).out.mono ?_
      rintro x w2 ⟨rfl, hm2⟩
      have HM2 := Lib.hid (HM1.out.trans hm2)
      clear hm2
      go_wp2_with fail
      refine (HB.out _ HM2.out.cur).out.mono ?_
      rintro x w3 ⟨rfl, hm3⟩
      have HM3 := Lib.hid (HM2.out.trans hm3)
      clear hm3
      go_wp2_with fail
      refine (HD.out _ HM3.out.cur).out.mono ?_
      rintro x w4 ⟨rfl, hm4⟩
      have HM4 := Lib.hid (HM3.out.trans hm4)
      clear hm4
      go_wp2
      go_ret3
      exact ⟨rfl, HM4.out⟩
     | false =>
      rw [h4, if_neg (by decide)] at HD
      clear h4
      rw [if_neg (by decide)]
      have HN1 := Lib.hid (fun X hX => HNH.out (k1 + 1) X hX)
      obtain ⟨k2, hk2⟩ : ∃ k2, k2 = k1 + 1 + nD l (k1 + 1) := ⟨_, rfl⟩
      rw [← hk2] at HN1 ⊢
      have HF := Lib.hid (fun X hX => HTE.out k2 X hX)
      clear hk2
      generalize numV l (k1 + 1) = n at *
      cases h5 : numOk l (k1 + 1) with
      | false =>
       rw [h5] at HN1
       clear h5
       rw [Bool.false_and, Bool.false_and, if_neg (by decide)]
       go_enter Tryz.func58, Tryz.ntmps58
       go_wp2_with fail
       refine HN0.out.mono ?_
       rintro x w1 ⟨rfl, hm1⟩
       have HM1 := Lib.hid hm1
       clear hm1
       go_wp2_with fail
       refine (HA.out _ HM1.out.cur).out.mono ?_
       rintro x w2 ⟨rfl, hm2⟩
       have HM2 := Lib.hid (HM1.out.trans hm2)
       clear hm2
       go_wp2_with fail
       refine (HB.out _ HM2.out.cur).out.mono ?_
       rintro x w3 ⟨rfl, hm3⟩
       have HM3 := Lib.hid (HM2.out.trans hm3)
       clear hm3
       go_wp2_with fail
       refine (HD.out _ HM3.out.cur).out.mono ?_
       rintro x w4 ⟨rfl, hm4⟩
       have HM4 := Lib.hid (HM3.out.trans hm4)
       clear hm4
       go_wp2_with fail
       refine (HN1.out _ HM4.out.cur).out.mono ?_
       rintro x w5 ⟨rfl, hm5⟩
       have HM5 := Lib.hid (HM4.out.trans hm5)
       clear hm5
       go_wp2
       go_ret3
       exact ⟨_, _, _, rfl, HM5.out⟩
      | true =>
       rw [h5] at HN1
       clear h5
       rw [Bool.true_and]
       by_cases h6 : m ≤ n
       ·rw [decide_eq_true h6, Bool.true_and]
        cases h7 : begAt l k2 E with
        | true =>
         rw [h7, if_pos rfl] at HF
         clear h7
         rw [if_pos rfl]
         go_enter Tryz.func58, Tryz.ntmps58
         go_wp2_with fail
         refine HN0.out.mono ?_
         rintro x w1 ⟨rfl, hm1⟩
         have HM1 := Lib.hid hm1
         clear hm1
         go_wp2_with fail
         refine (HA.out _ HM1.out.cur).out.mono ?_
         rintro x w2 ⟨rfl, hm2⟩
         have HM2 := Lib.hid (HM1.out.trans hm2)
         clear hm2
         go_wp2_with fail
         refine (HB.out _ HM2.out.cur).out.mono ?_
         rintro x w3 ⟨rfl, hm3⟩
         have HM3 := Lib.hid (HM2.out.trans hm3)
         clear hm3
         go_wp2_with fail
         refine (HD.out _ HM3.out.cur).out.mono ?_
         rintro x w4 ⟨rfl, hm4⟩
         have HM4 := Lib.hid (HM3.out.trans hm4)
         clear hm4
         go_wp2_with fail
         refine (HN1.out _ HM4.out.cur).out.mono ?_
         rintro x w5 ⟨rfl, hm5⟩
         have HM5 := Lib.hid (HM4.out.trans hm5)
         clear hm5
         go_wp2_with fail
         refine (HF.out _ HM5.out.cur).out.mono ?_
         rintro x w6 ⟨rfl, hm6⟩
         have HM6 := Lib.hid (HM5.out.trans hm6)
         clear hm6
         go_wp2
         go_ret3
         exact ⟨rfl, HM6.out⟩
        | false =>
         rw [h7, if_neg (by decide)] at HF
         clear h7
         rw [if_neg (by decide)]
         go_enter Tryz.func58, Tryz.ntmps58
         go_wp2_with fail
         refine HN0.out.mono ?_
         rintro x w1 ⟨rfl, hm1⟩
         have HM1 := Lib.hid hm1
         clear hm1
         go_wp2_with fail
         refine (HA.out _ HM1.out.cur).out.mono ?_
         rintro x w2 ⟨rfl, hm2⟩
         have HM2 := Lib.hid (HM1.out.trans hm2)
         clear hm2
         go_wp2_with fail
         refine (HB.out _ HM2.out.cur).out.mono ?_
         rintro x w3 ⟨rfl, hm3⟩
         have HM3 := Lib.hid (HM2.out.trans hm3)
         clear hm3
         go_wp2_with fail
         refine (HD.out _ HM3.out.cur).out.mono ?_
         rintro x w4 ⟨rfl, hm4⟩
         have HM4 := Lib.hid (HM3.out.trans hm4)
         clear hm4
         go_wp2_with fail
         refine (HN1.out _ HM4.out.cur).out.mono ?_
         rintro x w5 ⟨rfl, hm5⟩
         have HM5 := Lib.hid (HM4.out.trans hm5)
         clear hm5
         go_wp2_with fail
         refine (HF.out _ HM5.out.cur).out.mono ?_
         rintro x w6 ⟨rfl, hm6⟩
         have HM6 := Lib.hid (HM5.out.trans hm6)
         clear hm6
         go_wp2
         go_ret3
         exact ⟨_, _, _, rfl, HM6.out⟩
       ·rw [decide_eq_false h6, Bool.false_and, if_neg (by decide)]
        have h6d : decide (m ≤ n) = false := decide_eq_false h6
        go_enter Tryz.func58, Tryz.ntmps58
        go_wp2_with fail
        refine HN0.out.mono ?_
        rintro x w1 ⟨rfl, hm1⟩
        have HM1 := Lib.hid hm1
        clear hm1
        go_wp2_with fail
        refine (HA.out _ HM1.out.cur).out.mono ?_
        rintro x w2 ⟨rfl, hm2⟩
        have HM2 := Lib.hid (HM1.out.trans hm2)
        clear hm2
        go_wp2_with fail
        refine (HB.out _ HM2.out.cur).out.mono ?_
        rintro x w3 ⟨rfl, hm3⟩
        have HM3 := Lib.hid (HM2.out.trans hm3)
        clear hm3
        go_wp2_with fail
        refine (HD.out _ HM3.out.cur).out.mono ?_
        rintro x w4 ⟨rfl, hm4⟩
        have HM4 := Lib.hid (HM3.out.trans hm4)
        clear hm4
        go_wp2_with fail
        refine (HN1.out _ HM4.out.cur).out.mono ?_
        rintro x w5 ⟨rfl, hm5⟩
        have HM5 := Lib.hid (HM4.out.trans hm5)
        clear hm5
        go_wp2
        go_ret3
        exact ⟨_, _, _, rfl, HM5.out⟩
def BkC (cf : ByteArray → (Nat → Bool) × Bool) (l : List Int) : Prop :=
 ∀ (e : Nat → Addr) (v : Value) (k : Nat) (lg : Int) (w : World), 0 < k → l.getD (k - 1) 0 = 91 → l.length ≤ 1048576 → Es w w.heap.size e → Sl w v l → k ≤ l.length → lg = 3 ∨ lg = 4 → Calls Tryz.prog 75 #[v, .int .i64 k, .int .i64 lg] w (BkPost (brkR cf (ofBys (l.drop k)) false 0) e k lg w)
theorem bkC_of {cf : ByteArray → (Nat → Bool) × Bool} (hcf : ClassOk cf) (l : List Int) : BkC cf l := fun e v k lg w _ _ h47 he hs hk hlg => by
 have := bkt_any cf hcf e v l k lg (by omega) w he hs hk (Or.inr hlg)
 rw [show decide (lg = 2) = false by rcases hlg with h | h <;> rw [h] <;> rfl] at this
 exact this
theorem bkC_none (cf : ByteArray → (Nat → Bool) × Bool) {l : List Int} (h : ∀ k, ¬ l.getD k 0 = 91) : BkC cf l := fun _ _ _ _ _ _ h1 => (h _ h1).elim
def BktPost (e : Nat → Addr) (l : List Int) (ext : Bool) (cb k : Nat) (r : BR) (w : World) (x : Ending) (w' : World) : Prop :=
 match r with
 | .ok p nx => x = .returned (.tuple #[(setN p).v nilS, .nilIface]) ∧ Mv cb (ofBys l) (k + nx) w w'
 | .bad c pos => ∃ b, x = .returned (.tuple #[(setN noP).v nilS, .iface 95 (.pointer (some ⟨b, 0, none⟩))]) ∧ ErrQ w' e ext c (k + pos : Nat) (.iface 95 (.pointer (some ⟨b, 0, none⟩))) ∧ Mv cb (ofBys l) k w w'
theorem mv_setRow {w w' : World} {cb k : Nat} {s : ByteArray} (h : Mv cb s k w w') {g : Nat} (hg : w.heap.size ≤ g) (hcb : cb < w.heap.size) (c : Array Value) : Mv cb s k w (w'.setRow g c) := by
 have hl : ∀ i, i ≠ g → (w'.setRow g c).heap[i]? = w'.heap[i]? := fun i hi => setRow_other w' g i c hi
 exact ⟨below_setRow h.1 (by omega) c, ⟨(hl cb (by omega)).trans h.2.1.1, h.2.1.2⟩, fun i hi hn => (hl i (by omega)).trans (h.2.2 i hi hn)⟩
theorem blk_mv {w w' : World} {cb k i : Nat} {s : ByteArray} {o : Obj} (h : w.heap[i]? = some o) (hm : Mv cb s k w w') (hi : i ≠ cb) : w'.heap[i]? = some o := (hm.2.2 i (lt_blkB h) hi).trans h
structure BklI (w : World) (cb : Nat) (l : List Int) (p : Nat → Bool) (bx : Nat) (j : Nat) (X : World) : Prop where
 mv : Mv cb (ofBys l) j w X
 res : X.heap[w.heap.size]? = some (.cells zero9 57)
 box : X.heap[bx]? = some (.cells #[.int .u64 (sw p 0 : Nat), .int .u64 (sw p 1 : Nat), .int .u64 (sw p 2 : Nat), .int .u64 (sw p 3 : Nat)] 54)
theorem bracket_any (cf : ByteArray → (Nat → Bool) × Bool) (e : Nat → Addr) (bv : Value) (l : List Int) (hcf : BkC cf l) (hl : Byt l) (h47 : l.length ≤ 1048576) (ext : Bool) (cb k : Nat) (w : World) (hk0 : 0 < k) (hk91 : l.getD (k - 1) 0 = 91) (he : Es w w.heap.size e) (hs : Sl w bv l) (h : Cur w cb (ofBys l) k) :
  Calls Tryz.prog 57 #[bv, .pointer (some ⟨cb, 0, none⟩), .bool ext] w (BktPost e l ext cb k (brkR cf (ofBys (l.drop k)) false 0) w) := by
 have hk := h.2.1
 rw [ofBys_size] at hk
 have hcb := h.facts.2.2.2.2
 obtain ⟨oa, n0, cap, rfl⟩ : ∃ oa n cap, bv = .slice oa n cap := by
  obtain ⟨hy, hl, ⟨rfl, a, cap, rfl⟩ | ⟨b, o, cap, rfl, hcl, hcm, hr⟩⟩ := hs
  ·exact ⟨_, _, _, rfl⟩
  ·exact ⟨_, _, _, rfl⟩
 obtain ⟨W0, hW0⟩ : ∃ W0, W0 = w.alloc (.cells zero9 57) := ⟨_, rfl⟩
 have HB0 : Hid (Below w.heap.size w W0) := Lib.hid (by rw [hW0]; exact (Below.refl _ _).alloc (Nat.le_refl _) _)
 have HR0 : Hid (W0.heap[w.heap.size]? = some (.cells zero9 57)) := Lib.hid (by rw [hW0]; exact alloc_last w _)
 have HM0 : Hid (Mv cb (ofBys l) k w W0) := Lib.hid (Mv.below h HB0.out)
 have HP := Lib.hid (pos_any cb k (ofBys l) W0 HM0.out.cur)
 have HL := Lib.hid (langOf_any ext W0)
 have HES0 : Es W0 W0.heap.size e := ⟨(he.below HB0.out).var, Nat.lt_of_lt_of_le he.low HB0.out.size, Nat.le_refl _⟩
 have HBK := Lib.hid (hcf e (.slice oa n0 cap) k (langR ext) W0 hk0 hk91 h47 HES0 (hs.below HB0.out) hk (by cases ext <;> simp [langR]))
 have HSO : ∀ (p : Nat → Bool) (X : World), Hid (Calls Tryz.prog 55 #[.agg #[.int .u64 (sw p 0 : Nat), .int .u64 (sw p 1 : Nat), .int .u64 (sw p 2 : Nat), .int .u64 (sw p 3 : Nat)]] X fun x w' => x = .returned ((setN p).v (.slice none 0 0)) ∧ Below X.heap.size X w') := fun p X => Lib.hid (setOf_any p X)
 have HSOH := Lib.hid HSO
 have HPX : Hid (∀ j X, Cur X cb (ofBys l) j → Calls Tryz.prog 51 #[.pointer (some ⟨cb, 0, none⟩)] X fun e w' => e = .returned (.int .i64 j) ∧ X = w') := Lib.hid (fun j X hX => pos_any cb j (ofBys l) X hX)
 have HNX : Hid (∀ j X, j < l.length → Cur X cb (ofBys l) j → Calls Tryz.prog 71 #[.pointer (some ⟨cb, 0, none⟩)] X fun e w' => e = .returned (.tuple #[.int .u8 (atB (ofBys l) j), .bool true]) ∧ Mv cb (ofBys l) (j + 1) X w') := Lib.hid (fun j X hj hX => by
  have := next_any cb j (ofBys l) X hX
  rw [ofBys_size, decide_eq_true hj, if_pos hj] at this
  exact this)
 have HWE := Lib.hid hW0
 unfold zero9 at HWE
 clear he hs h hcf hW0 HSO HES0 hk0 hk91
 have hdl : (l.drop k).length = l.length - k := List.length_drop
 generalize hbr : brkR cf (ofBys (l.drop k)) false 0 = r at *
 cases r with
 | ok p nx =>
  have hgt := brkR_gt cf _ _ hbr
  rw [ofBys_size, hdl] at hgt
  have hnl : k + nx ≤ l.length := by omega
  obtain ⟨nn, hnn⟩ : ∃ nn, nn = k + nx := ⟨_, rfl⟩
  unfold BkPost SV at HBK
  dsimp only at HBK
  unfold BktPost
  dsimp only
  have hkn : k ≤ nn := by omega
  rw [← hnn] at HBK hnl ⊢
  clear hbr hgt hdl hnn
  go_enter Tryz.func57, Tryz.ntmps57
  go_wp2_with fail
  rw [← HWE.out]
  go_wp2_with fail
  refine HP.out.mono ?_
  rintro x w1 ⟨rfl, rfl⟩
  go_wp2_with fail
  refine HL.out.mono ?_
  rintro x w1 ⟨rfl, rfl⟩
  go_wp2_with fail
  refine HBK.out.mono ?_
  rintro x w1 ⟨rfl, hb1⟩
  have HI1 : Hid (BklI w cb l p w1.heap.size k (w1.alloc (.cells #[.int .u64 (sw p 0 : Nat), .int .u64 (sw p 1 : Nat), .int .u64 (sw p 2 : Nat), .int .u64 (sw p 3 : Nat)] 54))) := Lib.hid ⟨(HM0.out.trans (Mv.below HM0.out.cur hb1)).alloc _, blk_alloc (blk_below HR0.out hb1) _, alloc_last w1 _⟩
  have hbx : w.heap.size < w1.heap.size := lt_blkB (blk_below HR0.out hb1)
  clear hb1
  go_wp2_with fail
  go_loopg [] nn (fun gk wr => ∃ j, nn ≤ gk + j ∧ k ≤ j ∧ j ≤ nn ∧ BklI w cb l p w1.heap.size j wr)
  case atStart => exact ⟨k, by omega, Nat.le_refl _, hkn, HI1.out⟩
  case round =>
   obtain ⟨j, hg, hkj, hjn, hI⟩ := hrel
   have HI := Lib.hid hI
   have HP1 := Lib.hid (HPX.out j wr hI.mv.cur)
   clear hI HI1
   by_cases hlt : j < nn
   ·have hlti : (j : Int) < (nn : Int) := by omega
    have HN1 := Lib.hid (HNX.out j wr (by omega) HI.out.mv.cur)
    obtain ⟨gm, rfl⟩ : ∃ gm, gk = gm + 1 := ⟨gk - 1, by omega⟩
    go_wp2_with fail
    refine HP1.out.mono ?_
    rintro x w2 ⟨rfl, rfl⟩
    go_wp2_with fail
    refine HN1.out.mono ?_
    rintro x w2 ⟨rfl, hm⟩
    have HI2 : Hid (BklI w cb l p w1.heap.size (j + 1) w2) := Lib.hid ⟨HI.out.mv.trans hm, blk_mv HI.out.res hm (by omega), blk_mv HI.out.box hm (by omega)⟩
    clear hm
    go_wp2
    go_roundg gm
    case measure => omega
    case rel => exact ⟨j + 1, by omega, by omega, by omega, HI2.out⟩
   ·obtain rfl : j = nn := by omega
    have hnlt : ¬ (j : Int) < (j : Int) := by omega
    have hbxb := HI.out.box
    have c0 : wr.cell? ⟨w1.heap.size, 0, none⟩ = some (.int .u64 (sw p 0 : Nat)) := (Lib.cell_of_heap hbxb 0).trans rfl
    have c1 : wr.cell? ⟨w1.heap.size, 1, none⟩ = some (.int .u64 (sw p 1 : Nat)) := (Lib.cell_of_heap hbxb 1).trans rfl
    have c2 : wr.cell? ⟨w1.heap.size, 2, none⟩ = some (.int .u64 (sw p 2 : Nat)) := (Lib.cell_of_heap hbxb 2).trans rfl
    have c3 : wr.cell? ⟨w1.heap.size, 3, none⟩ = some (.int .u64 (sw p 3 : Nat)) := (Lib.cell_of_heap hbxb 3).trans rfl
    clear hbxb
    go_wp2_with fail
    refine HP1.out.mono ?_
    rintro x w2 ⟨rfl, rfl⟩
    go_wp2_with fail
    refine (HSOH.out p wr).out.mono ?_
    rintro x w2 ⟨rfl, hb2⟩
    have HR2 : Hid (w2.heap[w.heap.size]? = some (.cells zero9 57)) := Lib.hid (blk_below HI.out.res hb2)
    have HM2 : Hid (Mv cb (ofBys l) j w w2) := Lib.hid (HI.out.mv.trans (Mv.below HI.out.mv.cur hb2))
    clear hb2
    go_wp2_with (refine wpList_store_re rfl _ _ rfl rfl w.heap.size (setN p) none 0 0 rfl rfl _ HR2.out rfl ?_)
    refine bodyPost_ret (results_re2 rfl _ _ w.heap.size (setN p) nilS .nilIface rfl rfl (setRow_selfR HR2.out _)) rfl ⟨rfl, mv_setRow HM2.out (Nat.le_refl _) hcb _⟩
 | bad c pos =>
  unfold BkPost SV at HBK
  dsimp only at HBK
  unfold BktPost
  dsimp only
  clear hbr hdl
  go_enter Tryz.func57, Tryz.ntmps57
  go_wp2_with fail
  rw [← HWE.out]
  go_wp2_with fail
  refine HP.out.mono ?_
  rintro x w1 ⟨rfl, rfl⟩
  go_wp2_with fail
  refine HL.out.mono ?_
  rintro x w1 ⟨rfl, rfl⟩
  go_wp2_with fail
  refine HBK.out.mono ?_
  rintro x w1 ⟨v, rfl, her, hb1⟩
  obtain ⟨kk, rfl⟩ := her.iface
  have HI1 : Hid (BklI w cb l noP w1.heap.size k (w1.alloc (.cells #[.int .u64 (sw noP 0 : Nat), .int .u64 (sw noP 1 : Nat), .int .u64 (sw noP 2 : Nat), .int .u64 (sw noP 3 : Nat)] 54))) := Lib.hid ⟨(HM0.out.trans (Mv.below HM0.out.cur hb1)).alloc _, blk_alloc (blk_below HR0.out hb1) _, alloc_last w1 _⟩
  have HE1 : Hid (ErrQ (w1.alloc (.cells #[.int .u64 (sw noP 0 : Nat), .int .u64 (sw noP 1 : Nat), .int .u64 (sw noP 2 : Nat), .int .u64 (sw noP 3 : Nat)] 54)) e ext c (k + pos : Nat) (.iface 95 (.pointer (some ⟨kk, 0, none⟩)))) := Lib.hid (ErrQ.below (Or.inr (her.lower (Nat.zero_le _))) ((Below.refl _ _).alloc (Nat.le_refl _) _))
  have hbx : w.heap.size < w1.heap.size := lt_blkB (blk_below HR0.out hb1)
  clear hb1 her
  generalize hW1 : w1.alloc (.cells #[.int .u64 (sw noP 0 : Nat), .int .u64 (sw noP 1 : Nat), .int .u64 (sw noP 2 : Nat), .int .u64 (sw noP 3 : Nat)] 54) = W1 at *
  have HW1 := Lib.hid hW1
  clear hW1
  have HP1 := Lib.hid (HPX.out k W1 HI1.out.mv.cur)
  have hbxb := HI1.out.box
  have c0 : W1.cell? ⟨w1.heap.size, 0, none⟩ = some (.int .u64 (sw noP 0 : Nat)) := (Lib.cell_of_heap hbxb 0).trans rfl
  have c1 : W1.cell? ⟨w1.heap.size, 1, none⟩ = some (.int .u64 (sw noP 1 : Nat)) := (Lib.cell_of_heap hbxb 1).trans rfl
  have c2 : W1.cell? ⟨w1.heap.size, 2, none⟩ = some (.int .u64 (sw noP 2 : Nat)) := (Lib.cell_of_heap hbxb 2).trans rfl
  have c3 : W1.cell? ⟨w1.heap.size, 3, none⟩ = some (.int .u64 (sw noP 3 : Nat)) := (Lib.cell_of_heap hbxb 3).trans rfl
  clear hbxb
  have hk0 : ¬ (k : Int) < 0 := by omega
  go_wp2_with fail
  rw [HW1.out]
  refine wp_loop_rounds 1 ?_
  rw [rounds_succ]
  go_wp2_with fail
  refine HP1.out.mono ?_
  rintro x w2 ⟨rfl, rfl⟩
  go_wp2_with fail
  refine (HSOH.out noP W1).out.mono ?_
  rintro x w2 ⟨rfl, hb2⟩
  have HR2 : Hid (w2.heap[w.heap.size]? = some (.cells zero9 57)) := Lib.hid (blk_below HI1.out.res hb2)
  have HM2 : Hid (Mv cb (ofBys l) k w w2) := Lib.hid (HI1.out.mv.trans (Mv.below HI1.out.mv.cur hb2))
  have HE2 := Lib.hid (HE1.out.below hb2)
  clear hb2
  go_wp2_with (refine wpList_store_re rfl _ _ rfl rfl w.heap.size (setN noP) none 0 0 rfl rfl _ HR2.out rfl ?_)
  refine bodyPost_ret (results_re2 rfl _ _ w.heap.size (setN noP) nilS (.iface 95 (.pointer (some ⟨kk, 0, none⟩))) rfl rfl (setRow_selfR HR2.out _)) rfl ⟨kk, rfl, ?_, mv_setRow HM2.out (Nat.le_refl _) hcb _⟩
  exact HE2.out.kept (by simp) fun j cs T hT hj => setRow_other _ _ _ _ (fun hjg => by
   subst hjg
   rw [HR2.out] at hj
   simp only [Option.some.injEq, Obj.cells.injEq] at hj
   rcases hT with h | h | h <;> rw [h] at hj <;> exact absurd hj.2.1 (by decide))
section
variable {P : Program}
theorem wp_store_at {o : Oper} {a : Act} {w : World} {K : Act → World → Prop} {Q : Exit → Act → World → Prop} (ty : TypeId) (x y : Operand) (ho : o.op = .store ty x y)
  (g i : Nat) (v : Value) (hx : a.eval x = .pointer (some ⟨g, i, none⟩)) (hy : a.eval y = v) (hv : v.cells = #[v]) (h1 : v.oneCell' = true)
  (t : TypeId) (cur : Array Value) (hg : w.heap[g]? = some (.cells cur t (0, 0))) (hi : (P.info? ty).map (·.size) = some 1)
  (hc : i < cur.size) (C' : Array Value) (hC : (spl cur.toList i [v]).toArray = C') (h : K (a.put o.dst undef) (w.setRow g C')) : o.wp P a w K Q := by
 subst hC
 have := run_storeCells_part (P := P) g i t [v] 0 cur w hg (by simp; omega) (fun u hu => by rw [List.mem_singleton.1 hu]; exact h1)
 rw [Nat.add_zero] at this
 have hr : (storeVar ty ⟨g, i, none⟩ v).run P w = .ok () (w.setRow g (spl cur.toList i [v]).toArray) := by
  cases hq : P.info? ty with
  | none => simp [hq] at hi
  | some j =>
   have hs : j.size = 1 := by simpa [hq] using hi
   simp [storeVar, sizeOf, typeInfo, hq, hv, hs, this]
 unfold Oper.wp execOp
 simp only [ho, hx, hy, Instr.storeAt, Instr.sureAddr, Sem.run_bind, Sem.run_pure, Result.andThen_ok, hr]
 exact h
theorem wpList_store_at {ops : Array Oper} {rest : List Oper} {o : Oper} {a : Act} {w : World} {Q : Exit → Act → World → Prop} (hgd : o.guard = none) (ty : TypeId) (x y : Operand) (ho : o.op = .store ty x y) (hd : o.dst = none)
  (g i : Nat) (v : Value) (hx : a.eval x = .pointer (some ⟨g, i, none⟩)) (hy : a.eval y = v) (hv : v.cells = #[v]) (h1 : v.oneCell' = true)
  (t : TypeId) (cur : Array Value) (hg : w.heap[g]? = some (.cells cur t (0, 0))) (hi : (P.info? ty).map (·.size) = some 1)
  (hc : i < cur.size) (C' : Array Value) (hC : (spl cur.toList i [v]).toArray = C') (h : wpList P ops Q rest a (w.setRow g C')) : wpList P ops Q (o :: rest) a w :=
 wpList_plain hgd fun _ hK => wp_store_at ty x y ho g i v hx hy hv h1 t cur hg hi hc C' hC (hK _ _ (by rw [hd]; exact h))
theorem wpList_store_partC {ops : Array Oper} {rest : List Oper} {o : Oper} {a : Act} {w : World} {Q : Exit → Act → World → Prop} (hgd : o.guard = none) (ty : TypeId) (x y : Operand) (ho : o.op = .store ty x y) (hd : o.dst = none)
  (g i : Nat) (vs : List Value) (hx : a.eval x = .pointer (some ⟨g, i, none⟩)) (hy : a.eval y = .agg vs.toArray)
  (t : TypeId) (cur : Array Value) (hg : w.heap[g]? = some (.cells cur t (0, 0))) (hi : (P.info? ty).map (·.size) = some vs.length)
  (hc : i + vs.length ≤ cur.size) (h1 : vs.all (·.oneCell') = true) (C' : Array Value) (hC : (spl cur.toList i vs).toArray = C')
  (h : wpList P ops Q rest a (w.setRow g C')) : wpList P ops Q (o :: rest) a w := by
 subst hC
 exact wpList_store_part hgd ty x y ho hd g i vs hx hy t cur hg hi hc h1 h
end
structure CapR (w : World) (x0 x1 x2 cb : Nat) (ext : Bool) (bv : Value) : Prop where
 c : w.heap[x0]? = some (.cells #[.pointer (some ⟨cb, 0, none⟩)] 127)
 x : w.heap[x1]? = some (.cells #[.bool ext] 4)
 b : w.heap[x2]? = some (.cells #[bv] 25)
 n0 : x0 ≠ cb
 n1 : x1 ≠ cb
 n2 : x2 ≠ cb
theorem CapR.mv {w w' : World} {x0 x1 x2 cb k : Nat} {ext : Bool} {bv : Value} {s : ByteArray} (h : CapR w x0 x1 x2 cb ext bv) (hm : Mv cb s k w w') : CapR w' x0 x1 x2 cb ext bv :=
 ⟨blk_mv h.c hm h.n0, blk_mv h.x hm h.n1, blk_mv h.b hm h.n2, h.n0, h.n1, h.n2⟩
theorem CapR.cells {w : World} {x0 x1 x2 cb : Nat} {ext : Bool} {bv : Value} (h : CapR w x0 x1 x2 cb ext bv) : w.cell? ⟨x0, 0, none⟩ = some (.pointer (some ⟨cb, 0, none⟩)) ∧ w.cell? ⟨x1, 0, none⟩ = some (.bool ext) ∧ w.cell? ⟨x2, 0, none⟩ = some bv :=
 ⟨(Lib.cell_of_heap h.c 0).trans rfl, (Lib.cell_of_heap h.x 0).trans rfl, (Lib.cell_of_heap h.b 0).trans rfl⟩
def zero15 : Array Value := #[.int .i64 0, .int .i64 0, .string ⟨#[]⟩, .int .i64 0, .int .u64 0, .int .u64 0, .int .u64 0, .int .u64 0, .int .i64 0, .int .i64 0, .int .i64 0, .slice none 0 0, .int .i64 0, .int .i64 0, .nilIface]
theorem sg_size : (Tryz.prog.info? 63).map (·.size) = some 15 := by kernel_rfl
theorem kind_size : (Tryz.prog.info? 61).map (·.size) = some 1 := by kernel_rfl
theorem int_size : (Tryz.prog.info? 3).map (·.size) = some 1 := by kernel_rfl
theorem err_size : (Tryz.prog.info? 37).map (·.size) = some 1 := by kernel_rfl
theorem sg_built (k : Nat) (s : ByteArray) : Tryz.prog.built 63 [(1, .int .i64 k), (2, .string s)] = some (sgB k s) := by kernel_rfl
structure Sg1 (W : World) (cb : Nat) (l : List Int) (k : Nat) (L3 L5 L6 : Bool) (u5 : Value) (X : World) : Prop where
 cur : Mv cb (ofBys l) (if L3 = true then k + (sgT l k).length else k) W X
 new : L5 = true → L6 = false → ∃ b, u5 = .pointer (some ⟨b, 0, none⟩) ∧ W.heap.size ≤ b ∧ X.heap[b]? = some (.cells zero15 63 (0, 0))
 done : L6 = true → ∃ b, u5 = .pointer (some ⟨b, 0, none⟩) ∧ W.heap.size ≤ b ∧ X.heap[b]? = some (.cells (sgB k (ofBys (sgT l k))) 63 (0, 0))
theorem mv_drew {w w' : World} {cb k : Nat} {s : ByteArray} (h : Mv cb s k w w') : Mv cb s k w w'.drew := h.drewAt 1
theorem ErrQ.setRow {w : World} {e : Nat → Addr} {ext : Bool} {c : Nat} {p : Int} {v : Value} (h : ErrQ w e ext c p v) {g : Nat} {old : Array Value} {T : TypeId} (hg : w.heap[g]? = some (.cells old T (0, 0))) (hT : T ≠ 90 ∧ T ≠ 97 ∧ T ≠ 100) (c' : Array Value) : ErrQ (w.setRow g c') e ext c p v :=
 h.kept (by simp) fun k cs U hU hk => setRow_other _ _ _ _ (fun e => by
  subst e
  rw [hg] at hk
  simp only [Option.some.injEq, Obj.cells.injEq] at hk
  rcases hU with h1 | h1 | h1
  ·exact hT.1 (hk.2.1.trans h1)
  ·exact hT.2.1 (hk.2.1.trans h1)
  ·exact hT.2.2 (hk.2.1.trans h1))
def sgA (kd : Int) (k : Nat) (t : ByteArray) (n : Nd) (lo hi : Int) (ev : Value) : Array Value := #[.int .i64 kd, .int .i64 k, .string t, .int .i64 n.kd, .int .u64 (sw n.p 0 : Nat), .int .u64 (sw n.p 1 : Nat), .int .u64 (sw n.p 2 : Nat), .int .u64 (sw n.p 3 : Nat), .int .i64 n.mn, .int .i64 n.mx, .int .i64 n.gp, .slice none 0 0, .int .i64 lo, .int .i64 hi, ev]
theorem sgA_no (kd : Int) (k : Nat) (t : ByteArray) (j : Int) (lo hi : Int) (ev : Value) : sgA kd k t (kindN j) lo hi ev = #[.int .i64 kd, .int .i64 k, .string t, .int .i64 j, .int .u64 0, .int .u64 0, .int .u64 0, .int .u64 0, .int .i64 0, .int .i64 0, .int .i64 0, .slice none 0 0, .int .i64 lo, .int .i64 hi, ev] := by
 unfold sgA
 have z : ∀ i, ((sw (kindN j).p i : Nat) : Int) = 0 := sw_zero
 rw [z, z, z, z]
 rfl
theorem zeroN_kind : zeroN = kindN 0 := rfl
structure SgT (cb : Nat) (l : List Int) (j b g : Nat) (C : Array Value) (w X : World) : Prop where
 mv : Mv cb (ofBys l) j w X
 hb : w.heap.size < b
 bk : X.heap[b]? = some (.cells C 63 (0, 0))
 hg : g = w.heap.size
 rk : X.heap[g]? = some (.cells zero15 63 (0, 0))
theorem SgT.row {cb : Nat} {l : List Int} {j b g : Nat} {C : Array Value} {w X : World} (h : SgT cb l j b g C w X) (hcb : cb < w.heap.size) (C' : Array Value) : SgT cb l j b g C' w (X.setRow b C') :=
 ⟨mv_setRow h.mv (Nat.le_of_lt h.hb) hcb _, h.hb, setRow_selfR h.bk _, h.hg, (setRow_other _ _ _ _ (by have := h.hb; have := h.hg; omega)).trans h.rk⟩
theorem SgT.below {cb : Nat} {l : List Int} {j b g : Nat} {C : Array Value} {w X X' : World} (h : SgT cb l j b g C w X) (hb : Below X.heap.size X X') : SgT cb l j b g C w X' :=
 ⟨h.mv.trans (Mv.below h.mv.cur hb), h.hb, blk_below h.bk hb, h.hg, blk_below h.rk hb⟩
theorem SgT.step {cb : Nat} {l : List Int} {j j' b g : Nat} {C : Array Value} {w X X' : World} (h : SgT cb l j b g C w X) (hcb : cb < w.heap.size) (hm : Mv cb (ofBys l) j' X X') : SgT cb l j' b g C w X' :=
 ⟨h.mv.trans hm, h.hb, blk_mv h.bk hm (by have := h.hb; omega), h.hg, blk_mv h.rk hm (by have := h.hg; omega)⟩
theorem SgT.out {cb : Nat} {l : List Int} {j b g : Nat} {C : Array Value} {w X : World} (h : SgT cb l j b g C w X) (hcb : cb < w.heap.size) (C' : Array Value) : Mv cb (ofBys l) j w (X.setRow g C') := mv_setRow h.mv (by have := h.hg; omega) hcb _
theorem sgT_ne {l : List Int} {k : Nat} {ext : Bool} (h : roleC (sgT l k) ext = 0) : sgT l k ≠ [] := fun e => by rw [e] at h; cases h
theorem sgT_le2 (l : List Int) (k : Nat) : (sgT l k).length ≤ 2 := by unfold sgT; (repeat' split) <;> simp
theorem sgT_one {l : List Int} {k : Nat} (hne : sgT l k ≠ []) : ¬ (sgT l k).getD 0 0 = 92 → sgT l k = [(sgT l k).getD 0 0] := by
 unfold sgT at *
 by_cases h : k < l.length
 ·rw [if_pos h] at *
  by_cases h2 : l.getD k 0 = 92 ∧ k + 1 < l.length
  ·rw [if_pos h2]; intro h3; exact absurd rfl h3
  ·rw [if_neg h2]; intro _; rfl
 ·rw [if_neg h] at hne; exact absurd rfl hne
def SgE (e : Nat → Addr) (ext : Bool) (s : Sg) (lo hi : Int) (ev : Value) (j : Nat) (w : World) : Prop :=
 match s.er with
 | none => ev = .nilIface ∧ lo = s.lo ∧ hi = s.hi ∧ j = s.nx
 | some (c, p) => (∃ U b, ev = .iface U (.pointer (some ⟨b, 0, none⟩))) ∧ ErrQ w e ext c p ev
def SgPost (e : Nat → Addr) (l : List Int) (ext : Bool) (cb k : Nat) (s : Sg) (w : World) (x : Ending) (w' : World) : Prop :=
 ∃ lo hi ev j, x = .returned (.agg (sgA s.kd k (ofBys s.tx) s.nd lo hi ev)) ∧ Mv cb (ofBys l) j w w' ∧ SgE e ext s lo hi ev j w'
theorem sgp_ok {e : Nat → Addr} {l : List Int} {ext : Bool} {cb k : Nat} {s : Sg} {w : World} {x : Ending} {w' : World} (he : s.er = none) (h : x = .returned (.agg (sgA s.kd k (ofBys s.tx) s.nd s.lo s.hi .nilIface)) ∧ Mv cb (ofBys l) s.nx w w') : SgPost e l ext cb k s w x w' :=
 ⟨_, _, _, _, h.1, h.2, by unfold SgE; rw [he]; exact ⟨rfl, rfl, rfl, rfl⟩⟩
theorem sgp_bad {e : Nat → Addr} {l : List Int} {ext : Bool} {cb k : Nat} {s : Sg} {w : World} {x : Ending} {w' : World} {c p : Nat} (he : s.er = some (c, p)) (lo hi : Int) (j : Nat) (h : ∃ U b, x = .returned (.agg (sgA s.kd k (ofBys s.tx) s.nd lo hi (.iface U (.pointer (some ⟨b, 0, none⟩))))) ∧ ErrQ w' e ext c p (.iface U (.pointer (some ⟨b, 0, none⟩))) ∧ Mv cb (ofBys l) j w w') : SgPost e l ext cb k s w x w' := by
 obtain ⟨U, b, h1, h2, h3⟩ := h
 exact ⟨_, _, _, _, h1, h3, by unfold SgE; rw [he]; exact ⟨⟨U, b, rfl⟩, h2⟩⟩
theorem sgT_91 {l : List Int} {k : Nat} {ext : Bool} (h : roleC (sgT l k) ext = 91) : sgT l k = [91] := by
 unfold roleC at h
 split at h
 ·exact absurd h (by decide)
 split at h
 ·rename_i hc
  rcases hc with e | e | e <;> rw [e] at h <;> cases ext <;> exact absurd h (by decide)
 split at h
 ·rename_i hc
  rcases hc with e | e | e | e | e | e <;> rw [e] at h <;> cases ext <;> exact absurd h (by decide)
 split at h
 ·rename_i hc
  rcases hc with e | e | e | e | e <;> rw [e] at h ⊢ <;> exact absurd h (by decide)
 ·exact absurd h (by decide)
theorem sgT_brk {l : List Int} {k : Nat} {ext : Bool} (h : roleC (sgT l k) ext = 91) : l.getD (k + (sgT l k).length - 1) 0 = 91 := by
 have h1 := sgT_91 h
 rw [h1]
 unfold sgT at h1
 split at h1
 ·split at h1
  ·cases h1
  ·show l.getD (k + 1 - 1) 0 = 91
   rw [Nat.add_sub_cancel]
   exact (List.cons.inj h1).1
 ·cases h1
inductive SgC (cf : ByteArray → (Nat → Bool) × Bool) (l : List Int) (ext : Bool) (k : Nat) : Sg → Prop
 | byt (c) (hr : roleC (sgT l k) ext = 0) (hlit : litR (sgT l k) ext = .byt c) : SgC cf l ext k ⟨0, sgT l k, setN (mem [c]), 0, 0, none, k + (sgT l k).length⟩
 | esc (c) (hr : roleC (sgT l k) ext = 0) (hlit : litR (sgT l k) ext = .bad c) : SgC cf l ext k ⟨0, sgT l k, zeroN, 0, 0, some (c, k), k + (sgT l k).length⟩
 | any1 (hr : roleC (sgT l k) ext = 46) : SgC cf l ext k ⟨0, sgT l k, setN allP, 0, 0, none, k + (sgT l k).length⟩
 | brk (p) (nx : Nat) (hr : roleC (sgT l k) ext = 91) (hbr : brkR cf (ofBys (l.drop (k + (sgT l k).length))) false 0 = .ok p nx) : SgC cf l ext k ⟨0, sgT l k, setN p, 0, 0, none, k + (sgT l k).length + nx⟩
 | brb (c pos : Nat) (hr : roleC (sgT l k) ext = 91) (hbr : brkR cf (ofBys (l.drop (k + (sgT l k).length))) false 0 = .bad c pos) : SgC cf l ext k ⟨0, sgT l k, setN noP, 0, 0, some (c, k + (sgT l k).length + pos), k + (sgT l k).length⟩
 | beg (hr : roleC (sgT l k) ext = 94) : SgC cf l ext k ⟨0, sgT l k, kindN 2, 0, 0, none, k + (sgT l k).length⟩
 | fin (hr : roleC (sgT l k) ext = 36) : SgC cf l ext k ⟨0, sgT l k, kindN 3, 0, 0, none, k + (sgT l k).length⟩
 | plus (hr : roleC (sgT l k) ext = 43) : SgC cf l ext k ⟨1, sgT l k, zeroN, 1, -1, none, k + (sgT l k).length⟩
 | star (hr : roleC (sgT l k) ext = 42) : SgC cf l ext k ⟨1, sgT l k, zeroN, 0, -1, none, k + (sgT l k).length⟩
 | opt (hr : roleC (sgT l k) ext = 63) : SgC cf l ext k ⟨1, sgT l k, zeroN, 0, 1, none, k + (sgT l k).length⟩
 | itv (m n k2) (hr : roleC (sgT l k) ext = 123) (hitv : itv l ext (k + (sgT l k).length) = some (m, n, k2)) : SgC cf l ext k ⟨1, sgT l k, zeroN, m, n, none, k2⟩
 | itb (hr : roleC (sgT l k) ext = 123) (hitv : itv l ext (k + (sgT l k).length) = none) : SgC cf l ext k ⟨1, sgT l k, zeroN, 0, 0, some (7, k), k + (sgT l k).length⟩
 | opn (hr : roleC (sgT l k) ext = 40) : SgC cf l ext k ⟨2, sgT l k, zeroN, 0, 0, none, k + (sgT l k).length⟩
 | shut (hr : roleC (sgT l k) ext = 41) : SgC cf l ext k ⟨3, sgT l k, zeroN, 0, 0, none, k + (sgT l k).length⟩
 | bar (hr : roleC (sgT l k) ext = 124) : SgC cf l ext k ⟨4, sgT l k, zeroN, 0, 0, none, k + (sgT l k).length⟩
 | stop (hr : roleC (sgT l k) ext = 256) : SgC cf l ext k ⟨5, sgT l k, zeroN, 0, 0, none, k + (sgT l k).length⟩
theorem sgC_all (cf : ByteArray → (Nat → Bool) × Bool) (l : List Int) (ext : Bool) (k : Nat) : SgC cf l ext k (sg cf l ext k) :=
 sg_cases (SgC cf l ext k) cf l ext k (fun c => .byt c) (fun c => .esc c) .any1 (fun p nx => .brk p nx) (fun c p => .brb c p) .beg .fin .plus .star .opt (fun m n k2 => .itv m n k2) .itb .opn .shut .bar (fun h _ => .stop h)
end Go.Proofs.YtnpkcllbpnmabaaGreatDoor
