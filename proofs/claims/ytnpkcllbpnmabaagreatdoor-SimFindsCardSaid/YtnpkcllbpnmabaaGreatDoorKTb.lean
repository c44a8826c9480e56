import Derived.Test.YtnpkcllbpnmabaaGreatDoorKRv
import Derived.Test.YtnpkcllbpnmabaaGreatDoorReTx
import Derived.Test.YtnpkcllbpnmabaaGreatDoorSeTxt
import Derived.Lib.AppendIntMem
import Derived.Deep.LoopGhost
namespace Go.Proofs.YtnpkcllbpnmabaaGreatDoor
open Go.RowKit
def Nd.Fit (n : Nd) : Prop := ((-9223372036854775808 ≤ n.mn ∧ n.mn ≤ 9223372036854775807) ∧ (-9223372036854775808 ≤ n.mx ∧ n.mx ≤ 9223372036854775807) ∧ (-9223372036854775808 ≤ n.gp ∧ n.gp ≤ 9223372036854775807)) ∧ n.kids.Fit
theorem sz_at : ∀ (l : List Nd) k (h : k < l.length), (l[k]).sz ≤ szL l
  | [], k, h => by simp at h
  | n :: r, 0, _ => by
    show n.sz ≤ 1 + n.kids.sz + (fo r).sz
    unfold Nd.sz
    omega
  | n :: r, k + 1, h => by
    have hr : k < r.length := by simpa using h
    have := sz_at r k hr
    show (r[k]'hr).sz ≤ 1 + n.kids.sz + (fo r).sz
    unfold szL at this
    omega
def ReAt (w : World) (p : Nat) (t : Nd) (kv : Value) (g : Nat) (ext : Bool) : Prop := w.heap[p]? = some (.cells (reA t kv g ext) 67 (0, 0))
set_option maxHeartbeats 4000000 in
theorem Ext_at (w : World) (p : Nat) (t : Nd) (kv : Value) (g : Nat) (ext : Bool) (h : ReAt w p t kv g ext) :
    Calls Tryz.prog 38 #[.pointer (some ⟨p, 0, none⟩)] w fun x w' => x = .returned (.bool ext) ∧ w' = w := by
  have hpl := lt_blkB h
  have c10 : w.cell? ⟨p, 10, none⟩ = some (.bool ext) := (Lib.cell_of_heap h 10).trans rfl
  clear h
  go_enter Tryz.func38, Tryz.ntmps38
  go_wp2
  go_ret
  exact ⟨rfl, rfl⟩
def fitL (l : List Nd) : Prop := ∀ x ∈ l, x.Fit
theorem fo_fit : ∀ l : List Nd, fitL l → (fo l).Fit
  | [], _ => trivial
  | n :: r, h => ⟨(h n (by simp)).1, (h n (by simp)).2, fo_fit r fun x hx => h x (List.mem_cons_of_mem _ hx)⟩
theorem fit_zero {kd : Int} {p : Nat → Bool} {mn mx gp : Int} {kids : Fo} (h1 : -9223372036854775808 ≤ mn ∧ mn ≤ 9223372036854775807) (h2 : -9223372036854775808 ≤ mx ∧ mx ≤ 9223372036854775807) (h3 : -9223372036854775808 ≤ gp ∧ gp ≤ 9223372036854775807) (hk : kids.Fit) : (Nd.mk kd p mn mx gp kids).Fit := ⟨⟨h1, h2, h3⟩, hk⟩
theorem fit_join {kd : Int} {l : List Nd} (h : fitL l) : (joinN kd l).Fit := by
  unfold joinN
  split
  · exact h _ (by simp)
  · exact fit_zero (by omega) (by omega) (by omega) (fo_fit _ h)
theorem fit_snoc {l : List Nd} {x : Nd} (h : fitL l) (hx : x.Fit) : fitL (l ++ [x]) := fun y hy => by
  rcases List.mem_append.1 hy with h1 | h1
  · exact h y h1
  · rw [List.mem_singleton.1 h1]; exact hx
theorem fit_one {x : Nd} (h : x.Fit) : fitL [x] := fun y hy => by rw [List.mem_singleton.1 hy]; exact h
theorem fit_repN {x : Nd} {m n : Int} (h : x.Fit) (h1 : -1 ≤ m ∧ m ≤ 255) (h2 : -1 ≤ n ∧ n ≤ 255) : (repN m n x).Fit := fit_zero (by omega) (by omega) (by omega) (fo_fit _ (fit_one h))
theorem fit_rep {l : List Nd} {m n : Int} (h : fitL l) (h1 : -1 ≤ m ∧ m ≤ 255) (h2 : -1 ≤ n ∧ n ≤ 255) : fitL (repL l m n) := by
  unfold repL
  cases hx : l.getLast? with
  | none => exact h
  | some x => exact fit_snoc (fun y hy => h y (List.dropLast_subset _ hy)) (fit_repN (h x (List.mem_of_getLast? hx)) h1 h2)
theorem nD_first {l : List Int} (hl : Byt l) {k : Nat} (h : 0 < nD l k) : l.getD k 0 ≠ 45 := by
  unfold nD passN at h
  have h1 := (stopN_is (passB (ofBys l) dgtB true k) ((ofBys l).size - k)).2.1 0 h
  unfold passB at h1
  rw [Nat.add_zero, beq_iff_eq] at h1
  have e : bys dgtB = [48, 49, 50, 51, 52, 53, 54, 55, 56, 57] := by decide
  rw [e] at h1
  unfold inB at h1
  have h2 : atB (ofBys l) k ∈ ([48, 49, 50, 51, 52, 53, 54, 55, 56, 57] : List Int) := by simpa using h1
  unfold atB at h2
  rw [bys_ofBys hl] at h2
  intro h45
  rw [h45] at h2
  simp at h2
theorem numV_fits {l : List Int} (hl : Byt l) {k : Nat} (h : numOk l k = true) : 0 ≤ numV l k ∧ numV l k ≤ 255 := by
  unfold numOk at h
  simp only [Bool.and_eq_true, decide_eq_true_eq] at h
  refine ⟨?_, h.2⟩
  unfold numV wV
  rw [if_pos h.1.1]
  split
  · rename_i h45
    exfalso
    by_cases hn : 0 < nD l k
    · refine nD_first hl hn ?_
      unfold dgs at h45
      rw [List.getD_eq_getElem?_getD, List.getElem?_take, if_pos hn, List.getElem?_drop, Nat.add_zero, ← List.getD_eq_getElem?_getD] at h45
      exact h45
    · unfold dgs at h45
      rw [show nD l k = 0 by omega] at h45
      simp at h45
  · exact valK_nonneg 10 (by decide) _ _ (Nat.le_refl _)
theorem itv_fits {l : List Int} (hl : Byt l) {ext : Bool} {k : Nat} {m n : Int} {k2 : Nat} (h : itv l ext k = some (m, n, k2)) : (-1 ≤ m ∧ m ≤ 255) ∧ (-1 ≤ n ∧ n ≤ 255) := by
  unfold itv at h
  split at h
  · cases h
  rename_i h0
  have a := numV_fits hl (k := k) (by simpa using h0)
  split at h
  · simp only [Option.some.injEq, Prod.mk.injEq] at h; omega
  split at h
  · cases h
  split at h
  · simp only [Option.some.injEq, Prod.mk.injEq] at h; omega
  split at h
  · rename_i h3
    simp only [Bool.and_eq_true] at h3
    have b := numV_fits hl (k := k + nD l k + 1) h3.1.1
    simp only [Option.some.injEq, Prod.mk.injEq] at h; omega
  · cases h
theorem sg_num (cf : ByteArray → (Nat → Bool) × Bool) {l : List Int} (hl : Byt l) (ext : Bool) (k : Nat) : (sg cf l ext k).kd = 1 → (sg cf l ext k).er = none → (-1 ≤ (sg cf l ext k).lo ∧ (sg cf l ext k).lo ≤ 255) ∧ (-1 ≤ (sg cf l ext k).hi ∧ (sg cf l ext k).hi ≤ 255) := by
  apply sg_cases (fun s => s.kd = 1 → s.er = none → (-1 ≤ s.lo ∧ s.lo ≤ 255) ∧ (-1 ≤ s.hi ∧ s.hi ≤ 255))
  case h123 => exact fun m n k2 _ hi _ _ => itv_fits hl hi
  all_goals
    intros
    dsimp only
    omega
theorem sg_nd_fit (cf : ByteArray → (Nat → Bool) × Bool) (l : List Int) (ext : Bool) (k : Nat) : (sg cf l ext k).nd.Fit := by
  apply sg_cases (fun s => s.nd.Fit) <;> intros <;> exact fit_zero (by decide) (by decide) (by decide) trivial
theorem rdR_fit (cf : ByteArray → (Nat → Bool) × Bool) {l : List Int} (hl : Byt l) (ext : Bool) (n : Nat) (md : RM) (k g o : Nat) (t : Nd) (k1 g1 : Nat) (h : rdR cf l ext n md k g o = some (.ok t k1 g1)) (hm : fitL md.list) (hg : g ≤ 9) : t.Fit ∧ g1 ≤ 9 := by
  have key := rdR_ind cf l ext (fun md _ g _ r => fitL md.list → g ≤ 9 → ∀ t k1 g1, r = .ok t k1 g1 → t.Fit ∧ g1 ≤ 9) ?_ ?_ ?_ ?_ ?_ ?_ ?_ ?_ ?_ ?_ ?_ ?_ ?_ ?_ ?_ n md k g o _ h
  · exact key hm hg t k1 g1 rfl
  · intro bs k g o c p _ _ _ t k1 g1 e; cases e
  · intro bs k g o b k1 g1 r h1 _ h2 hm hg t k2 g2 e
    have a := h1 (fun x hx => by cases hx) hg _ _ _ rfl
    exact h2 (fit_snoc hm a.1) a.2 _ _ _ e
  · intro bs k g o b k1 g1 h1 _ hm hg t k2 g2 e
    have a := h1 (fun x hx => by cases hx) hg _ _ _ rfl
    cases e
    exact ⟨fit_join (fit_snoc hm a.1), a.2⟩
  · intro k g o _ _ _ t k1 g1 e; cases e
  · intro items k g o _ _ hm hg t k1 g1 e
    cases e
    exact ⟨fit_join hm, hg⟩
  · intro items k g o r _ _ h2 hm hg t k1 g1 e
    exact h2 (fit_snoc hm (fit_zero (by decide) (by decide) (by decide) trivial)) hg _ _ _ e
  · intro items k g o _ _ _ _ t k1 g1 e; cases e
  · intro items k g o c p _ _ _ _ _ t k1 g1 e; cases e
  · intro items k g o r hk1 _ her h2 hm hg t k1 g1 e
    have a := sg_num cf hl ext k hk1 her
    exact h2 (fit_rep hm a.1 a.2) hg _ _ _ e
  · intro items k g o _ _ _ _ t k1 g1 e; cases e
  · intro items k g o c p _ _ _ _ _ t k1 g1 e; cases e
  · intro items k g o t k1 g1 _ _ _ _ _ _ t' k2 g2 e; cases e
  · intro items k g o t k1 g1 r _ h9 h1 _ h2 hm hg t' k2 g2 e
    have a := h1 (fun x hx => by cases hx) (by omega) _ _ _ rfl
    exact h2 (fit_snoc hm (fit_zero (by decide) (by decide) (by omega) (fo_fit _ (fit_one a.1)))) a.2 _ _ _ e
  · intro items k g o c p _ _ _ _ _ _ t k1 g1 e; cases e
  · intro items k g o r _ _ _ _ _ h2 hm hg t k1 g1 e
    exact h2 (fit_snoc hm (sg_nd_fit cf l ext k)) hg _ _ _ e
theorem parseN_fit {cf : ByteArray → (Nat → Bool) × Bool} {l : List Int} (hl : Byt l) {ext : Bool} {n : Nat} {t : Nd} {k g : Nat} (h : parseN cf l ext n = some (.ok t k g)) : t.Fit ∧ t.sz ≤ 1026 := by
  obtain ⟨h1, h2, h3, _⟩ := parseN_ok h
  have a := rdR_fit cf hl ext _ _ _ _ _ _ _ _ h2 (fun x hx => by cases hx) (Nat.zero_le _)
  have b := rdR_sz cf l ext _ _ _ _ _ _ _ _ h2 (Nat.zero_le _)
  have z : RM.sz (.re []) = 0 := rfl
  have z2 : RM.ad (.re []) = 2 := rfl
  rw [z, z2] at b
  exact ⟨a.1, by omega⟩
theorem blk_set8 {X : World} {b : Nat} {n : Nd} {v : Value} (h : X.heap[b]? = some (.cells (n.cells v).toArray 57 (0, 0))) (y : Value) : (X.setCell ⟨b, 8, none⟩ y).heap[b]? = some (.cells (n.cells y).toArray 57 (0, 0)) := by
  simp [World.setCell, Array.getElem?_modify, h, Nd.cells]
theorem row_free {X : World} {b : Nat} {cs : Array Value} {t : TypeId} (h : X.heap[b]? = some (.cells cs t (0, 0))) (i : Nat) : X.frozen? ⟨b, i, none⟩ = false := by
  simp [World.frozen?, h]
theorem wp_append_ownR {P : Program} {o : Oper} {a : Act} {w : World} {K : Act → World → Prop} {Q : Exit → Act → World → Prop} (s x : Operand) (t : TypeId)
    (ho : o.op = .call { callee := .builtin .append, args := #[s, x], argTypes := #[t, t] })
    (base : Nat) (e : TypeId) (i : TypeInfo) (z : Value) (size bytes : Nat) (ht : P.underlying t = some (.slice e)) (hi : P.info? e = some i) (hz : i.zero = some z)
    (hsize : i.size = size) (hby : i.bytes = bytes) (hzs : z.cells.size = size) (hsz : 0 < size)
    (v : Value) (n : Nat) (xs : List Value) (hs : a.eval s = v) (hown : w.ownsRow base e size v n xs)
    (ad : Addr) (m c : Nat) (news : List Value) (hx : a.eval x = .slice (some ad) m c) (hl : news.length = m * size) (hnews : ∀ j u, news[j]? = some u → w.cell? (ad.add j) = some u) (h1 : ∀ u ∈ news, u.oneCell' = true)
    (h63 : n + m ≤ maxLen) (hbytes : (n + m) * bytes ≤ 140737488355328) (hbase : base ≤ w.heap.size)
    (h : ∀ v' w', w'.ownsRow base e size v' (n + m) (xs ++ news) → w.grownBy w' v.ownBlock → (v' = .slice none 0 0 ↔ v = .slice none 0 0 ∧ m = 0) → (v'.ownBlock = v.ownBlock ∨ v'.ownBlock = some w.heap.size) → K (a.put o.dst v') w') :
    o.wp P a w K Q := by
  obtain ⟨v', w', hr, h2, h3, h4, h5⟩ := run_append_own_at (P := P) w base t o.type e i z size bytes ht hi hz hsize hby hzs hsz v n xs hown ad m c news hl hnews h1 h63 hbytes hbase
  unfold Oper.wp execOp
  simp only [ho, resolve, invoke, builtin, Sem.run_bind, Sem.run_pure, Result.andThen_ok, List.map_toArray, List.map_cons, List.map_nil, hs, hx, hr]
  exact h v' w' h2 h3 h4 h5
structure ClS (w W : World) (B pb kb : Nat) (n nd : Nd) (kc : List Value) (v : Value) (l l' : List Nd) (d3 d4 d5 d7 : Bool) (u3 u4 u5 : Value) (X : World) : Prop where
  bel : Below pb w X
  size : W.heap.size ≤ X.heap.size
  kid : X.heap[kb]? = some (.cells kc.toArray 57 (0, 0))
  res : X.heap[pb + 1]? = some (.cells zero9 57 (0, 0))
  part : d7 = false → X.heap[pb]? = some (.cells (n.cells v).toArray 57 (0, 0))
  own : d5 = false → OwnT B v l X
  cl : d3 = true → d5 = false → ∃ a m c, u3 = nd.v (.slice a m c) ∧ nd.In X (fun b => B ≤ b ∧ v.ownBlock ≠ some b) (.slice a m c)
  lit : d4 = true → d5 = false → ∃ g a m c, u4 = .slice (some ⟨g, 0, none⟩) 1 1 ∧ X.heap[g]? = some (.cells (nd.cells (.slice a m c)).toArray 57 (0, 0)) ∧ nd.In X (fun b => B ≤ b ∧ v.ownBlock ≠ some b) (.slice a m c)
  new : d5 = true → OwnT B u5 l' X
  part' : d7 = true → X.heap[pb]? = some (.cells (n.cells u5).toArray 57 (0, 0))
def ClP (n : Nd) (w : World) (x : Ending) (w' : World) : Prop := ∃ a m c, x = .returned (n.v (.slice a m c)) ∧ n.In w' (fun b => w.heap.size ≤ b) (.slice a m c) ∧ Below w.heap.size w w'
structure ClL (w : World) (B pb : Nat) (n : Nd) (l : List Nd) (wr : World) : Prop where
  bel : Below pb w wr
  size : B ≤ wr.heap.size
  row : ∃ v, wr.heap[pb]? = some (.cells (n.cells v).toArray 57 (0, 0)) ∧ OwnT B v l wr
  res : wr.heap[pb + 1]? = some (.cells zero9 57 (0, 0))
set_option maxRecDepth 100000 in
set_option maxHeartbeats 16000000 in
theorem clone_step (S : Nat → Prop) (n : Nd) (l : List Nd) (a : Option Addr) (m c : Nat) (w : World) (hl : n.kids = fo l) (hnl : l.length ≤ 1000000) (hin : n.In w S (.slice a m c))
    (ih : ∀ k (h : k < l.length) a' m' c' W, (l[k]).In w S (.slice a' m' c') → Below w.heap.size w W → Calls Tryz.prog 40 #[(l[k]).v (.slice a' m' c')] W (ClP (l[k]) W)) :
    Calls Tryz.prog 40 #[n.v (.slice a m c)] w (ClP n w) := by
  obtain ⟨i0, z0, hi, hz0, hz1, hz2, hz3⟩ := re_parts
  obtain ⟨W, hW⟩ : ∃ W, W = (w.alloc (.cells (n.cells (.slice a m c)).toArray 57)).alloc (.cells zero9 57) := ⟨_, rfl⟩
  have hbx : W.heap[w.heap.size]? = some (.cells (n.cells (.slice a m c)).toArray 57 (0, 0)) := by rw [hW]; exact blk_alloc (alloc_last w _) _
  have hrx : W.heap[w.heap.size + 1]? = some (.cells zero9 57 (0, 0)) := by rw [hW]; have := alloc_last (w.alloc (.cells (n.cells (.slice a m c)).toArray 57)) (.cells zero9 57); simpa using this
  have hb : Below w.heap.size w W := by rw [hW]; exact ((Below.refl _ _).alloc (Nat.le_refl _) _).alloc (by simp) _
  have hNZ : W.heap.size = w.heap.size + 2 := by rw [hW]; simp
  have hlen : m = l.length := by
    obtain ⟨ks, h1, _⟩ := hin
    obtain ⟨_, cap, e⟩ := h1.shape
    simp only [Value.slice.injEq] at e
    rw [e.2.1, hl, fo_len]
  subst hlen
  have HKD : Hid (∀ k (h : k < l.length), ∃ kg kcap cur kv, Value.slice a l.length c = .slice (some ⟨kg, 0, none⟩) l.length kcap ∧ kg < w.heap.size ∧ w.heap[kg]? = some (.cells cur 57 (0, 0)) ∧ (l[k]).In w S kv ∧ (∀ i u, ((l[k]).cells kv)[i]? = some u → cur[k * 9 + i]? = some u)) := Lib.hid (fun k h => by
    obtain ⟨ks, ⟨hown, _⟩, hlay⟩ := hin
    rw [hl] at hlay
    obtain ⟨kv, hki, hkc⟩ := lay_at hlay (List.getElem?_eq_getElem h)
    obtain ⟨_, ⟨hn0, hz⟩ | ⟨g, cap, cur, hv, _, hg, hnc, _, hcs, htk⟩⟩ := hown
    · rw [hl, fo_len] at hz
      omega
    · refine ⟨g, cap, cur, kv, ?_, lt_blkB hg, hg, hki, fun i u hu => ?_⟩
      · simp only [Value.slice.injEq] at hv ⊢
        exact ⟨hv.1, trivial, hv.2.2⟩
      · have hi9 : i < 9 := (List.getElem?_eq_some_iff.1 hu).1
        have h1 := (hkc i hi9).trans hu
        rw [← htk, List.getElem?_take] at h1
        split at h1
        · simpa using h1
        · cases h1)
  have HIH := Lib.hid ih
  have HL := Lib.hid hl
  have c8 : W.cell? ⟨w.heap.size, 8, none⟩ = some (.slice a l.length c) := (Lib.cell_of_heap hbx 8).trans rfl
  have f8 : W.frozen? ⟨w.heap.size, 8, none⟩ = false := row_free hbx 8
  have HW2 : Hid (ClL w (w.heap.size + 2) w.heap.size n [] (W.setCell ⟨w.heap.size, 8, none⟩ (.slice none 0 0))) := Lib.hid (by
    refine ⟨hb.setCell (p := ⟨w.heap.size, 8, none⟩) (Nat.le_refl _) _, by simp; omega, ⟨.slice none 0 0, blk_set8 hbx _, OwnT.nil _ _⟩, ?_⟩
    rw [Below.heap_setCell _ _ _ _ (by simp)]
    exact hrx)
  have hsz : w.heap.size < W.heap.size := by omega
  have HWE := Lib.hid hW
  have HI := Lib.hid hi
  have HZ0 := Lib.hid hz0
  have HZ1 := Lib.hid hz1
  have HZ2 := Lib.hid hz2
  have HZ3 := Lib.hid hz3
  have HNV : Hid (n.v (.slice a l.length c) = .agg (n.cells (.slice a l.length c)).toArray) := Lib.hid rfl
  rw [HNV.out]
  clear hbx hrx hb hW hl hin ih hi hz0 hz1 hz2 hz3 hNZ
  unfold ClP
  generalize (n.cells (.slice a l.length c)).toArray = cs at *
  unfold zero9 at HWE
  go_enter Tryz.func40, Tryz.ntmps40
  go_upto_region 1 with fail
  rw [← HWE.out]
  go_upto_region 3 with fail
  obtain ⟨W2, hW2⟩ : ∃ W2, W2 = W.setCell ⟨w.heap.size, 8, none⟩ (.slice none 0 0) := ⟨_, rfl⟩
  rw [← hW2] at HW2 ⊢
  clear hW2 c8 f8 HWE hsz
  go_upto_region 4 with fail
  go_loopg [11] (l.length) (fun g i wr => ∃ k : Nat, g = l.length - k ∧ k ≤ l.length ∧ i = .int .i64 k ∧ Aside (ClL w (w.heap.size + 2) w.heap.size n (l.take k) wr))
  case atStart => exact ⟨0, by omega, Nat.zero_le _, rfl, HW2.out⟩
  case round =>
    obtain ⟨k, rfl, hk, rfl, hal⟩ := hrel
    have hI := hal.out
    clear hal HW2
    have hbr := hI.bel
    have hwz := hI.size
    by_cases hlt : k < l.length
    · obtain ⟨kg, kcap, cur, kv, hka, hgw, hcur, hin, hcl⟩ := HKD.out k hlt
      obtain ⟨ta, tm, tc, rfl⟩ := hin.shape
      simp only [Value.slice.injEq] at hka
      obtain ⟨rfl, _, rfl⟩ := hka
      have hlti : (k : Int) < (l.length : Int) := by omega
      have hk0 : (0 : Int) ≤ (k : Int) := by omega
      have hX : wr.heap[kg]? = some (.cells cur 57 (0, 0)) := (hbr.block kg hgw).trans hcur
      have hgk := lt_blkB hX
      obtain ⟨nd, hnd⟩ : ∃ nd, nd = l[k] := ⟨_, rfl⟩
      have HRE : Hid (∀ X, Below w.heap.size w X → Calls Tryz.prog 40 #[nd.v (.slice ta tm tc)] X (ClP nd X)) := Lib.hid (fun X hX => by rw [hnd]; exact HIH.out k hlt ta tm tc X hin hX)
      have HTK : Hid (l.take (k + 1) = l.take k ++ [nd]) := Lib.hid (by rw [hnd, List.take_succ_eq_append_getElem hlt])
      have HTL : Hid ((l.take k).length = k) := Lib.hid (by rw [List.length_take]; omega)
      have HTL1 : Hid ((l.take (k + 1)).length = k + 1) := Lib.hid (by rw [List.length_take]; omega)
      rw [← hnd] at hin hcl
      obtain ⟨v, hpv, hov⟩ := hI.row
      obtain ⟨va, vc, rfl⟩ := hov.shape
      rw [HTL.out] at hpv hov
      obtain ⟨W5, hW5⟩ : ∃ W5, W5 = wr.alloc (.cells zero9 57) := ⟨_, rfl⟩
      have hT5 : W5.heap[wr.heap.size]? = some (.cells zero9 57 (0, 0)) := by rw [hW5]; exact alloc_last _ _
      obtain ⟨W6, hW6⟩ : ∃ W6, W6 = W5.setRow wr.heap.size (nd.cells (.slice ta tm tc)).toArray := ⟨_, rfl⟩
      have hb6 : Below wr.heap.size wr W6 := by rw [hW6, hW5]; exact below_setRow ((Below.refl _ _).alloc (Nat.le_refl _) _) (Nat.le_refl _) _
      have hT6 : W6.heap[wr.heap.size]? = some (.cells (nd.cells (.slice ta tm tc)).toArray 57 (0, 0)) := by rw [hW6]; exact setRow_selfR hT5 _
      have HS0 : Hid (ClS w W6 (w.heap.size + 2) w.heap.size wr.heap.size n nd (nd.cells (.slice ta tm tc)) (.slice va k vc) (l.take k) (l.take (k + 1)) false false false false undef undef undef W6.drew) := Lib.hid
        ⟨(below_thn hbr (by omega) hb6).drew, Nat.le_refl _, hT6, (show W6.heap[w.heap.size + 1]? = _ from blk_below hI.res hb6), fun _ => (show W6.heap[w.heap.size]? = _ from blk_below hpv hb6), fun _ => (hov.below hb6).kept (SameR.below (Below.refl _ _).drew), fun h => (by cases h), fun h => (by cases h), fun h => (by cases h), fun h => (by cases h)⟩
      have HVB : Hid (Value.ownBlock (.slice va k vc) ≠ some wr.heap.size) := Lib.hid (fun e => by have := hov.row e; omega)
      have HX := Lib.hid hX
      have HCL := Lib.hid hcl
      have HT5 := Lib.hid hT5
      have HW5 := Lib.hid hW5
      have HW6 := Lib.hid hW6
      have hz6 : wr.heap.size < W6.heap.size := lt_blkB hT6
      have hkl : k ≤ 1000000 := by omega
      have hvl : (l.take k).length ≤ 1000000 := by have := HTL.out; omega
      clear hI hbr hX hcl hcur hin hnd hW5 hT5 hW6 hb6 hgw hpv hov hT6
      unfold zero9 at HW5
      go_upto_region 6 with (first | (refine wpList_load_part rfl 57 _ rfl kg (k * 9) rfl _ cur (nd.cells (.slice ta tm tc)) (0, 0) _ HX.out HCL.out Tryz.underlying57 rfl re_size ?_) | (rw [← HW5.out]; refine wpList_store_re rfl _ _ rfl rfl wr.heap.size nd ta tm tc rfl rfl _ HT5.out rfl ?_; rw [← HW6.out]) | fail)
      clear hlti hk0 HX HCL HT5 HW5 HW6
      refine Reg.wp_region_sto (fun L u X => ClS w W6 (w.heap.size + 2) w.heap.size wr.heap.size n nd (nd.cells (.slice ta tm tc)) (.slice va k vc) (l.take k) (l.take (k + 1)) (L 3) (L 4) (L 5) (L 7) (u 3) (u 4) (u 5) X) (fun j => ([some (.pointer (some ⟨w.heap.size, 8, none⟩)), some (.slice va k vc), some (nd.v (.slice ta tm tc)), none, none, none, some (.pointer (some ⟨w.heap.size, 8, none⟩)), none] : List (Option Value)).getD j none) (by kernel_rfl) (by kernel_rfl) (by kernel_rfl) (by kernel_rfl) ?rs0 ?rsE ?rsZ
      case rs0 => exact HS0.out
      case rsE =>
        refine Reg.EachG.plain rfl (fun L u T X hL hz hS hk K hK => ?_) ?_
        · skip
          have g1 := hk.old 1 (by kernel_rfl) rfl
          have hK := hK _ X hS (fun _ hx => Option.some.inj hx)
          clear hk hz hL
          go_simp
          exact hK
        refine Reg.EachG.plain rfl (fun L u T X hL hz hS hk K hK => ?_) ?_
        · skip
          have g15 := hk.val 0 15 (by kernel_rfl) (by kernel_rfl) rfl
          have hd : L 7 = false := hz 7 (by kernel_rfl)
          have c8 : X.cell? ⟨w.heap.size, 8, none⟩ = some (.slice va k vc) := (Lib.cell_of_heap (hS.part hd) 8).trans rfl
          have hb8 := lt_blkB (hS.part hd)
          have hK := hK _ X hS (fun _ hx => Option.some.inj hx)
          clear hk hz hL hd hS
          go_simp
          exact hK
        refine Reg.EachG.plain rfl (fun L u T X hL hz hS hk K hK => ?_) ?_
        · skip
          have g5 := hk.old 5 (by kernel_rfl) rfl
          refine wp_load_part 57 _ rfl wr.heap.size 0 (by simp [Act.eval, g5]) _ (nd.cells (.slice ta tm tc)).toArray (nd.cells (.slice ta tm tc)) (0, 0) _ hS.kid (fun j u hu => by rw [Nat.zero_add]; simpa using hu) Tryz.underlying57 rfl re_size ?_
          exact hK _ X hS (fun _ hx => Option.some.inj hx)
        refine Reg.EachG.plain rfl (fun L u T X hL hz hS hk K hK => ?_) ?_
        · skip
          have g17 := hk.val 2 17 (by kernel_rfl) (by kernel_rfl) rfl
          have hd5 : L 5 = false := hz 5 (by kernel_rfl)
          have hd4 : L 4 = false := hz 4 (by kernel_rfl)
          have hd7 : L 7 = false := hz 7 (by kernel_rfl)
          have hC := HRE.out X hS.bel
          clear hk hz
          unfold ClP at hC
          go_simp
          refine hC.mono ?_
          rintro x w' ⟨xa, xm, xc, rfl, hxi, hxb⟩
          refine hK _ w' ⟨below_thn hS.bel (by have := hS.size; omega) hxb, Nat.le_trans hS.size hxb.size, blk_below hS.kid hxb, blk_below hS.res hxb, fun _ => blk_below (hS.part hd7) hxb, fun _ => (hS.own hd5).below hxb, fun _ _ => ⟨xa, xm, xc, by rw [Reg.upd_same], hxi.mono fun b hb _ => ⟨by have := hS.size; omega, fun e => ?_⟩⟩, fun h => (by rw [Reg.upd_ne _ _ (by decide), hd4] at h; cases h), fun h => (by rw [Reg.upd_ne _ _ (by decide), hd5] at h; cases h), fun h => (by rw [Reg.upd_ne _ _ (by decide), hd7] at h; cases h)⟩ (fun _ hx => by cases hx)
          have := (hS.own hd5).row e
          omega
        refine Reg.EachG.plain rfl (fun L u T X hL hz hS hk K hK => ?_) ?_
        · skip
          obtain ⟨g18, l18⟩ := hk.any 3 18 (by kernel_rfl) (by kernel_rfl)
          have hd5 : L 5 = false := hz 5 (by kernel_rfl)
          have hd7 : L 7 = false := hz 7 (by kernel_rfl)
          obtain ⟨xa, xm, xc, e3, hxi⟩ := hS.cl l18 hd5
          rw [e3] at g18
          have hK := hK (.slice (some ⟨X.heap.size, 0, none⟩) 1 1) (X.alloc (.cells (nd.cells (.slice xa xm xc)).toArray 57)) ⟨hS.bel.alloc (by have := hS.size; omega) _, by have := hS.size; simp; omega, blk_alloc hS.kid _, blk_alloc hS.res _, fun _ => blk_alloc (hS.part hd7) _, fun _ => (hS.own hd5).below ((Below.refl _ _).alloc (Nat.le_refl _) _), fun _ _ => ⟨xa, xm, xc, by rw [Reg.upd_ne _ _ (by decide), e3], hxi.below ((Below.refl _ _).alloc (Nat.le_refl _) _)⟩, fun _ _ => ⟨_, xa, xm, xc, by rw [Reg.upd_same], alloc_last X _, hxi.below ((Below.refl _ _).alloc (Nat.le_refl _) _)⟩, fun h => (by rw [Reg.upd_ne _ _ (by decide), hd5] at h; cases h), fun h => (by rw [Reg.upd_ne _ _ (by decide), hd7] at h; cases h)⟩ (fun _ hx => by cases hx)
          clear hk hz hL hd7 hd5 hS hxi e3
          unfold Nd.v Nd.cells at g18
          unfold Nd.cells at hK
          go_simp
          exact hK
        refine Reg.EachG.plain rfl (fun L u T X hL hz hS hk K hK => ?_) ?_
        · skip
          have g16 := hk.val 1 16 (by kernel_rfl) (by kernel_rfl) rfl
          obtain ⟨g19, l19⟩ := hk.any 4 19 (by kernel_rfl) (by kernel_rfl)
          have hd7 : L 7 = false := hz 7 (by kernel_rfl)
          obtain ⟨g, xa, xm, xc, e4, hg, hxi⟩ := hS.lit l19 hL
          rw [e4] at g19
          obtain ⟨xs, hox, hlx⟩ := hS.own hL
          have htl := HTL.out
          rw [htl] at hox
          refine wp_append_ownR (.tmp 16) (.tmp 19) 55 rfl (w.heap.size + 2) 57 i0 z0 9 88 Tryz.underlying55 HI.out HZ0.out HZ1.out HZ2.out HZ3.out (by decide) (.slice va k vc) k xs (by simp [Act.eval, g16]) hox ⟨g, 0, none⟩ 1 1 (nd.cells (.slice xa xm xc)) (by simp [Act.eval, g19]) rfl ?hnews ?hone ?h63 ?hby ?hba ?_
          case hnews => (intro j u hj; rw [addz]; rw [Lib.cell_of_heap hg]; simpa using hj)
          case hone => exact cells_one9 _ _ _ _
          case h63 => (unfold maxLen; omega)
          case hby => omega
          case hba => (have := hS.size; omega)
          intro v' w' ho' hg' _ hv'
          have hob := own_row hox
          have hbl : Below w.heap.size w w' := ⟨hg'.os.trans hS.bel.os, hg'.tape.trans hS.bel.tape, hg'.output.trans hS.bel.output, Nat.le_trans hS.bel.size hg'.size, fun i hi => (hg'.block i (by have := hS.size; omega) (fun e => by have := (hob i e.symm).1; omega)).trans (hS.bel.block i hi)⟩
          have hkb : Value.ownBlock (.slice va k vc) ≠ some wr.heap.size := HVB.out
          refine hK v' w' ⟨hbl, Nat.le_trans hS.size hg'.size, (hg'.block _ (lt_blkB hS.kid) (fun e => hkb e.symm)).trans hS.kid, (hg'.block _ (lt_blkB hS.res) (fun e => by have := (hob _ e.symm).1; omega)).trans hS.res, fun _ => (hg'.block _ (lt_blkB (hS.part hd7)) (fun e => by have := (hob _ e.symm).1; omega)).trans (hS.part hd7), fun h => (by rw [Reg.upd_same] at h; cases h), fun _ h => (by rw [Reg.upd_same] at h; cases h), fun _ h => (by rw [Reg.upd_same] at h; cases h), fun _ => (by rw [Reg.upd_same, HTK.out]; exact OwnT.snoc hlx hxi (by rw [htl]; exact ho') hg' (by simpa using hv')), fun h => (by rw [Reg.upd_ne _ _ (by decide), hd7] at h; cases h)⟩ (fun _ hx => by cases hx)
        refine Reg.EachG.plain rfl (fun L u T X hL hz hS hk K hK => ?_) ?_
        · skip
          have g1 := hk.old 1 (by kernel_rfl) rfl
          have hK := hK _ X hS (fun _ hx => Option.some.inj hx)
          clear hk hz hL
          go_simp
          exact hK
        refine Reg.EachG.plain rfl (fun L u T X hL hz hS hk K hK => ?_) ?_
        · skip
          obtain ⟨g20, l20⟩ := hk.any 5 20 (by kernel_rfl) (by kernel_rfl)
          have g21 := hk.val 6 21 (by kernel_rfl) (by kernel_rfl) rfl
          have hnew := hS.new l20
          have hp := hS.part hL
          have c8 : X.cell? ⟨w.heap.size, 8, none⟩ = some (.slice va k vc) := (Lib.cell_of_heap hp 8).trans rfl
          have f8 := row_free hp 8
          have hb8 := lt_blkB hp
          have hne : wr.heap.size ≠ w.heap.size := by omega
          have hK := hK undef (X.setCell ⟨w.heap.size, 8, none⟩ (u 5)) ⟨hS.bel.setCell (p := ⟨w.heap.size, 8, none⟩) (Nat.le_refl _) _, by have := hS.size; simpa using this, (Below.heap_setCell _ _ _ _ hne).trans hS.kid, (Below.heap_setCell _ _ _ _ (by simp)).trans hS.res, fun h => (by rw [Reg.upd_same] at h; cases h), fun h => (by rw [Reg.upd_ne _ _ (by decide), l20] at h; cases h), fun _ h => (by rw [Reg.upd_ne _ _ (by decide), l20] at h; cases h), fun _ h => (by rw [Reg.upd_ne _ _ (by decide), l20] at h; cases h), fun _ => (by rw [Reg.upd_ne _ _ (by decide)]; exact hnew.kept fun b hb cs hc => Below.heap_setCell _ _ _ _ (by simp; omega)), fun _ => (by rw [Reg.upd_ne _ _ (by decide)]; exact blk_set8 hp _)⟩ (fun _ hx => by cases hx)
          obtain ⟨a7, cap7, e7⟩ := hnew.shape
          rw [e7] at hK g20
          rw [HTL1.out] at hK g20
          clear hk hz hL hS hnew hp e7
          go_simp
          exact hK
        exact Reg.EachG.nil
      case rsZ =>
        intro L u w1 hL hS hI
        have e0 := hI 0 (by decide) _ rfl
        have e1 := hI 1 (by decide) _ rfl
        have e2 := hI 2 (by decide) _ rfl
        have e6 := hI 6 (by decide) _ rfl
        clear hI
        simp only [Reg.putAll, Act.put, List.setIfInBounds_toArray, List.set_cons_succ, List.set_cons_zero, Nat.zero_add, Nat.reduceAdd, e0, e1, e2, e6]
        clear e0 e1 e2 e6
        have d5 := hL 5 (by decide)
        have d7 := hL 7 (by decide)
        have hnew := hS.new d5
        have hpart := hS.part' d7
        have hbel := hS.bel
        have hres := hS.res
        have hsz1 := hS.size
        generalize u 3 = y3 at *
        generalize u 4 = y4 at *
        generalize u 5 = y5 at *
        have HN : Hid (ClL w (w.heap.size + 2) w.heap.size n (l.take (k + 1)) w1) := Lib.hid ⟨hbel, by omega, ⟨y5, hpart, hnew⟩, hres⟩
        clear hS hnew hpart d5 d7 hL u L hbel hres
        go_wp2_with fail
        go_roundg (l.length - (k + 1))
        case measure => omega
        case rel => exact ⟨k + 1, rfl, by omega, by simp, HN.out⟩
    · obtain rfl : k = l.length := by omega
      have hnl : ¬ (l.length : Int) < (l.length : Int) := by omega
      rw [List.take_length] at hI
      obtain ⟨v, hpv, hov⟩ := hI.row
      obtain ⟨va, vc, rfl⟩ := hov.shape
      have HPV := Lib.hid hpv
      have HRX := Lib.hid hI.res
      have HOV := Lib.hid hov
      have HBR := Lib.hid hbr
      have hpl := lt_blkB hpv
      have hrl := lt_blkB hI.res
      clear hpv hov hI hbr HKD HIH
      go_wp2_with (first | (refine wpList_load_row rfl 57 _ rfl w.heap.size rfl _ _ (0, 0) _ HPV.out Tryz.underlying57 rfl re_size ?_) | (refine wpList_store_re rfl _ _ rfl rfl (w.heap.size + 1) n va l.length vc rfl rfl _ HRX.out rfl ?_) | fail)
      refine bodyPost_ret (results_re1 rfl _ _ (w.heap.size + 1) n _ rfl (setRow_selfR HRX.out _)) rfl ⟨va, l.length, vc, rfl, ?_, below_setRow HBR.out (by omega) _⟩
      obtain ⟨ks, h1, h2⟩ := (HOV.out.kept (w' := wr.setRow (w.heap.size + 1) (n.cells (.slice va l.length vc)).toArray) (fun b hb cs hc => setRow_other _ _ _ _ (by omega))).kids
      refine ⟨ks, ?_, ?_⟩
      · rw [HL.out, fo_len]
        exact h1.mono fun b hb _ => by omega
      · rw [HL.out]
        exact h2.mono (fun b hb _ => by omega)
theorem clone_any (S : Nat → Prop) : ∀ (N : Nat) (n : Nd) (kv : Value) (w : World), n.sz ≤ N → n.sz ≤ 1000000 → n.In w S kv → Calls Tryz.prog 40 #[n.v kv] w (ClP n w) := by
  intro N
  induction N with
  | zero => intro n kv w h; unfold Nd.sz at h; omega
  | succ N IH =>
    intro n kv w h hM hin
    obtain ⟨a, m, c, rfl⟩ := hin.shape
    obtain ⟨l, hl⟩ : ∃ l, n.kids = fo l := ⟨n.kids.toL, (fo_toL _).symm⟩
    have hs : 1 + szL l ≤ N + 1 := by unfold Nd.sz at h; rw [hl] at h; exact h
    have hs2 : 1 + szL l ≤ 1000000 := by unfold Nd.sz at hM; rw [hl] at hM; exact hM
    have hll : l.length ≤ szL l := by have := fo_sz_len (fo l); rw [fo_len] at this; exact this
    exact clone_step S n l a m c w hl (by omega) hin fun k hk a' m' c' W hi hb =>
      IH _ _ W (by have := sz_at l k hk; omega) (by have := sz_at l k hk; omega) (hi.below hb)
set_option maxHeartbeats 4000000 in
theorem Tree_at (S : Nat → Prop) (w : World) (p : Nat) (t : Nd) (kv : Value) (g : Nat) (ext : Bool) (h : ReAt w p t kv g ext) (hM : t.sz ≤ 1000000) (hin : t.In w S kv) :
    Calls Tryz.prog 25 #[.pointer (some ⟨p, 0, none⟩)] w (ClP t w) := by
  have hw0 : Below w.heap.size w (w.alloc (.cells zero9 57)) := (Below.refl _ _).alloc (Nat.le_refl _) _
  obtain ⟨W, hW⟩ : ∃ W, W = w.alloc (.cells zero9 57) := ⟨_, rfl⟩
  rw [← hW] at hw0
  have HG : Hid (W.heap[w.heap.size]? = some (.cells zero9 57 (0, 0))) := Lib.hid (by rw [hW]; exact alloc_last w _)
  have HX := Lib.hid (clone_any S t.sz t kv W (Nat.le_refl _) hM (hin.below hw0))
  have h' := blk_below h hw0
  have hpl := lt_blkB h'
  have HH : Hid (W.heap[p]? = some (.cells (reA t kv g ext) 67 (0, 0))) := Lib.hid h'
  have HC : Hid (∀ i u, (t.cells kv)[i]? = some u → (reA t kv g ext)[0 + i]? = some u) := Lib.hid (fun i u hu => by
    unfold reA
    rw [Nat.zero_add, List.getElem?_toArray, List.getElem?_append_left (by rw [Nd.cells_len]; exact (List.getElem?_eq_some_iff.1 hu).1)]
    exact hu)
  have HB0 := Lib.hid hw0
  have HWE := Lib.hid hW
  have hps : p < w.heap.size := lt_blkB h
  have hz : W.heap.size = w.heap.size + 1 := by rw [hW]; simp
  clear h hM hin hw0 h' hW
  unfold ClP at *
  unfold zero9 at HWE
  go_enter Tryz.func25, Tryz.ntmps25
  go_upto_region 1 with fail
  rw [← HWE.out]
  go_wp2_with (first | (refine wpList_load_part rfl 57 _ rfl p 0 rfl _ (reA t kv g ext) (t.cells kv) (0, 0) _ HH.out HC.out Tryz.underlying57 rfl re_size ?_) | fail)
  refine HX.out.mono ?_
  rintro x w1 ⟨ta, tm, tc, rfl, hti, hb⟩
  have hG1 := blk_below HG.out hb
  have HG1 := Lib.hid hG1
  have hg1l := lt_blkB hG1
  have HB := Lib.hid (below_thn HB0.out (Nat.le_refl _) hb)
  have HTI := Lib.hid hti
  clear hb hti hG1
  go_wp2_with (first | (refine wpList_store_re rfl _ _ rfl rfl w.heap.size t ta tm tc rfl rfl _ HG1.out rfl ?_) | fail)
  refine bodyPost_ret (results_re1 rfl _ _ w.heap.size t _ rfl (setRow_selfR HG1.out _)) rfl ⟨ta, tm, tc, rfl, ?_, below_setRow HB.out (Nat.le_refl _) _⟩
  refine (HTI.out.kept fun b hb cs hc => setRow_other _ _ _ _ (by omega)).mono fun b hb _ => by omega
end Go.Proofs.YtnpkcllbpnmabaaGreatDoor
