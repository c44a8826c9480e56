import Derived.Test.YtnpkcllbpnmabaaGreatDoorKWe
import Derived.Test.YtnpkcllbpnmabaaGreatDoorKSr
import Derived.Test.YtnpkcllbpnmabaaGreatDoorKSc
import Derived.Test.YtnpkcllbpnmabaaGreatDoorKRv
import Derived.Test.YtnpkcllbpnmabaaGreatDoorFaFn
import Derived.Lib.SlBytesConst
import Derived.Deep.CutRange
import Derived.Deep.CutBlock
namespace Go.Proofs.YtnpkcllbpnmabaaGreatDoor
set_option maxHeartbeats 8000000
set_option maxRecDepth 100000
open Go.RowKit
def litN (c : Int) : Nd := setN (mem [c])
def litT (s : List Int) : Nd := joinN 4 (s.map litN)
theorem joinM (l : List Int) (L : List Nd) (i j : Nat) : (joinN 4 L).M l i j ↔ (fo L).M l true i j := by
 unfold joinN
 split
 ·rename_i x
  show x.M l i j ↔ ∃ k, x.M l i k ∧ k = j
  exact ⟨fun h => ⟨j, h, rfl⟩, fun ⟨k, h, e⟩ => e ▸ h⟩
 ·exact Iff.rfl
theorem litM (l : List Int) (c : Int) (i j : Nat) : (litN c).M l i j ↔ j = i + 1 ∧ i < l.length ∧ mem [c] (l.getD i 0).toNat = true := Iff.rfl
theorem litsM {l : List Int} (hl : Byt l) : ∀ (s : List Int), Byt s → ∀ i j, i ≤ l.length → ((fo (s.map litN)).M l true i j ↔ j = i + s.length ∧ j ≤ l.length ∧ (l.drop i).take s.length = s)
 | [], _, i, j, hi => by
  show i = j ↔ _
  simp
  omega
 | c :: s, hs, i, j, hi => by
  have hs' : Byt s := fun k => by have := hs (k + 1); simpa using this
  have hc := hs 0
  simp only [List.getD_cons_zero] at hc
  show (∃ k, (litN c).M l i k ∧ (fo (s.map litN)).M l true k j) ↔ _
  have key : ∀ x : Int, 0 ≤ x → (mem [c] x.toNat = true ↔ x = c) := fun x hx => by
   unfold mem
   rw [decide_eq_true_iff, List.mem_singleton]
   omega
  constructor
  ·rintro ⟨k, hk, h⟩
   obtain ⟨rfl, hlt, hm⟩ := (litM l c i k).1 hk
   obtain ⟨h1, h2, h3⟩ := (litsM hl s hs' (i + 1) j hlt).1 h
   rw [key _ (hl i).1] at hm
   refine ⟨by rw [h1, List.length_cons]; omega, h2, ?_⟩
   rw [List.drop_eq_getElem_cons hlt, List.length_cons, List.take_succ_cons, h3]
   rw [List.getD_eq_getElem?_getD, List.getElem?_eq_getElem hlt] at hm
   rw [← hm]
   rfl
  ·rintro ⟨h1, h2, h3⟩
   rw [List.length_cons] at h1
   have hlt : i < l.length := by omega
   rw [List.drop_eq_getElem_cons hlt, List.length_cons, List.take_succ_cons] at h3
   obtain ⟨h4, h5⟩ := List.cons.inj h3
   refine ⟨i + 1, (litM l c i _).2 ⟨rfl, hlt, ?_⟩, (litsM hl s hs' (i + 1) j hlt).2 ⟨by omega, h2, h5⟩⟩
   rw [key _ (hl i).1, List.getD_eq_getElem?_getD, List.getElem?_eq_getElem hlt]
   exact h4
theorem litL_ok (s : List Int) : okL (s.map litN) := fun x hx => by
 obtain ⟨c, _, rfl⟩ := List.mem_map.1 hx
 exact ok_leaf (by decide) (by decide)
theorem litT_ok {s : List Int} (hs : s ≠ []) : (litT s).Ok := ok_join (litL_ok s) (by simpa using hs) (by decide)
def oc (l s : List Int) (i : Nat) : Bool := decide (i + s.length ≤ l.length ∧ (l.drop i).take s.length = s)
theorem lit_matJ {l s : List Int} (hl : Byt l) (hb : Byt s) (hs : s ≠ []) (i j : Nat) (hi : i ≤ l.length) : MatJ l (litT s).G i j ↔ j = i + s.length ∧ oc l s i = true := by
 rw [matJ_iff l (litT s) (litT_ok hs)]
 unfold litT oc
 rw [joinM, litsM hl s hb i j hi, decide_eq_true_iff]
 constructor
 ·rintro ⟨rfl, h2, h3⟩
  exact ⟨rfl, h2, h3⟩
 ·rintro ⟨rfl, h2, h3⟩
  exact ⟨rfl, h2, h3⟩
theorem oc_le {l s : List Int} {i : Nat} (h : oc l s i = true) : i + s.length ≤ l.length := by
 unfold oc at h
 exact (of_decide_eq_true h).1
theorem lit_found {l s : List Int} (hl : Byt l) (hb : Byt s) (hs : s ≠ []) {a : Nat} {h : Option (Nat × Nat)} (f : FoundT l (litT s).G a 1 h) : (h = none ∧ ∀ i, a ≤ i → oc l s i = false) ∨ ∃ p, h = some (p, p + s.length) ∧ a ≤ p ∧ oc l s p = true ∧ ∀ i, a ≤ i → i < p → oc l s i = false := by
 cases h with
 | none =>
  refine Or.inl ⟨rfl, fun i hi => ?_⟩
  cases hc : oc l s i with
  | false => rfl
  | true =>
   have h1 := oc_le hc
   exact absurd ((lit_matJ hl hb hs i (i + s.length) (by omega)).2 ⟨rfl, hc⟩) (f i ⟨hi, fun e => by cases e⟩ (by omega) _)
 | some q =>
  obtain ⟨⟨c1, _⟩, h2, h3, h4, h5⟩ := f
  obtain ⟨h6, _⟩ := h5 (by decide)
  obtain ⟨e, h7⟩ := (lit_matJ hl hb hs q.1 q.2 (by omega)).1 h4
  refine Or.inr ⟨q.1, by rw [← e], c1, h7, fun i hi hlt => ?_⟩
  cases hc : oc l s i with
  | false => rfl
  | true =>
   have h1 := oc_le hc
   exact absurd ((lit_matJ hl hb hs i (i + s.length) (by omega)).2 ⟨rfl, hc⟩) (h6 i ⟨hi, fun e => by cases e⟩ hlt _)
def LitP (P : Nat → Option (Nat × Nat)) (l s : List Int) : Prop := ∀ a, (P a = none ∧ ∀ i, a ≤ i → oc l s i = false) ∨ ∃ p, P a = some (p, p + s.length) ∧ a ≤ p ∧ oc l s p = true ∧ ∀ i, a ≤ i → i < p → oc l s i = false
theorem litP_ask {gb : Nat} {l s : List Int} {w : World} (hA : AutA gb (litT s).G.2 (litT s).G.1 w) (hl : Byt l) (hb : Byt s) (hs : s ≠ []) : LitP (askP (litT s).G.1 (litT s).G.2 l) l s := fun a => lit_found hl hb hs (ask_found (l := l) (G := (litT s).G) hA.cl hA.ze hA.lt a 1)
theorem allQ_det {P : Nat → Option (Nat × Nat)} : ∀ (k k' a : Nat) (q : Option Nat) (L L' : List (Nat × Nat)), allQ P k a q = some L → allQ P k' a q = some L' → L = L'
 | 0, _, _, _, _, _, h, _ => by cases h
 | _ + 1, 0, _, _, _, _, _, h => by cases h
 | k + 1, k' + 1, a, q, L, L', h, h' => by
  unfold allQ at h h'
  cases hp : P a with
  | none =>
   rw [hp] at h h'
   exact (Option.some.inj h).symm.trans (Option.some.inj h')
  | some p =>
   rw [hp] at h h'
   dsimp only at h h'
   split at h
   ·rename_i he
    rw [if_pos he] at h'
    exact allQ_det k k' _ _ _ _ h h'
   ·rename_i he
    rw [if_neg he] at h'
    obtain ⟨M, h1, rfl⟩ := Option.map_eq_some_iff.1 h
    obtain ⟨M', h2, rfl⟩ := Option.map_eq_some_iff.1 h'
    rw [allQ_det k k' _ _ _ _ h1 h2]
structure Gat (P : Nat → Option (Nat × Nat)) (l s : List Int) (i k a : Nat) (q : Option Nat) (rest : List (Nat × Nat)) : Prop where
 le : a ≤ i
 no : ∀ x, a ≤ x → x < i → oc l s x = false
 all : allQ P k a q = some rest
theorem Gat.hit {P : Nat → Option (Nat × Nat)} {l s : List Int} {i k a : Nat} {q : Option Nat} {rest : List (Nat × Nat)} (hP : LitP P l s) (hs : s ≠ []) (h : Gat P l s i k a q rest) (ho : oc l s i = true) : ∃ rest' k', rest = (i, i + s.length) :: rest' ∧ Gat P l s (i + s.length) k' (i + s.length) (some (i + s.length)) rest' := by
 have hsl : 0 < s.length := List.length_pos_iff.2 hs
 have hpa : P a = some (i, i + s.length) := by
  rcases hP a with ⟨_, h2⟩ | ⟨p, h1, h2, h3, h4⟩
  ·rw [h2 i h.le] at ho; cases ho
  ·have e : p = i := by
    rcases Nat.lt_trichotomy p i with h5 | h5 | h5
    ·rw [h.no p h2 h5] at h3; cases h3
    ·exact h5
    ·rw [h4 i h.le h5] at ho; cases ho
   rw [h1, e]
 have ha := h.all
 cases k with
 | zero => cases ha
 | succ k =>
  rcases allQ_go ha with ⟨h1, _⟩ | ⟨p, h1, h2⟩
  ·rw [hpa] at h1; cases h1
  ·rw [hpa] at h1
   obtain rfl := Option.some.inj h1
   rcases h2 with ⟨e1, e2, _⟩ | ⟨_, L', e1, e2⟩
   ·rw [e1] at e2
    have := Option.some.inj e2
    dsimp only at this
    omega
   ·exact ⟨L', k, e1, Nat.le_refl _, fun x h3 h4 => by omega, e2⟩
theorem Gat.miss {P : Nat → Option (Nat × Nat)} {l s : List Int} {i k a : Nat} {q : Option Nat} {rest : List (Nat × Nat)} (h : Gat P l s i k a q rest) (ho : oc l s i = false) : Gat P l s (i + 1) k a q rest :=
 ⟨Nat.le_succ_of_le h.le, fun x h1 h2 => by
  by_cases e : x = i
  ·rw [e]; exact ho
  ·exact h.no x h1 (by omega), h.all⟩
theorem Gat.done {P : Nat → Option (Nat × Nat)} {l s : List Int} {i k a : Nat} {q : Option Nat} {rest : List (Nat × Nat)} (hP : LitP P l s) (h : Gat P l s i k a q rest) (hi : l.length < i + s.length) : rest = [] := by
 have hpa : P a = none := by
  rcases hP a with ⟨h1, _⟩ | ⟨p, h1, h2, h3, h4⟩
  ·exact h1
  ·have h5 := oc_le h3
   have h6 := h.no p h2 (by omega)
   rw [h6] at h3
   cases h3
 have ha := h.all
 cases k with
 | zero => cases ha
 | succ k =>
  rcases allQ_go ha with ⟨_, h2⟩ | ⟨p, h1, _⟩
  ·exact h2
  ·rw [hpa] at h1; cases h1
end Go.Proofs.YtnpkcllbpnmabaaGreatDoor
namespace Go.Proofs.YtnpkcllbpnmabaaGreatDoor
set_option maxHeartbeats 8000000
set_option maxRecDepth 100000
open Go.RowKit Go.Extern.Stop Go.Stop Go.Extern
theorem nlangOf_any (w : World) (p : Nat) (t : Nd) (kv : Value) (g : Nat) (ext : Bool) (h : ReAt w p t kv g ext) : Calls Tryz.prog 23 #[.pointer (some ⟨p, 0, none⟩)] w fun x w' => (∃ k : Int, x = .returned (.int .i64 k)) ∧ w' = w := by
 have HE := Lib.hid (Ext_at w p t kv g ext h)
 clear h
 cases ext with
 | true =>
  go_enter Tryz.func23, Tryz.ntmps23
  go_wp2_with fail
  refine HE.out.mono ?_
  rintro x w1 ⟨rfl, rfl⟩
  go_wp2
  go_ret
  exact ⟨⟨_, rfl⟩, rfl⟩
 | false =>
  go_enter Tryz.func23, Tryz.ntmps23
  go_wp2_with fail
  refine HE.out.mono ?_
  rintro x w1 ⟨rfl, rfl⟩
  go_wp2
  go_ret
  exact ⟨⟨_, rfl⟩, rfl⟩
theorem build_heavy (e : Nat → Addr) (S : Nat → Prop) (w : World) (b : Nat) (t : Nd) (kv : Value) (g : Nat) (ext : Bool) (hs : Snt w e) (h : ReAt w b t kv g ext) (hM : t.sz ≤ 1000000) (hnn : t.nn ≤ 1100) (hok : t.Ok) (hkd : 1 ≤ t.kd) (hin : t.In w S kv) (hW : 4000 < t.W + 1) :
  Calls Tryz.prog 10 #[.pointer (some ⟨b, 0, none⟩)] w fun x w' => (∃ q, x = .returned (.tuple #[.pointer none, .iface 95 (.pointer q)])) ∧ Below w.heap.size w w' := by
 have HW0 := Lib.hid (weightO_at S w b t kv g ext h hM hnn hok hkd hin)
 rw [show min (t.W + 1) 4001 = 4001 by omega] at HW0
 have HOF : Hid (∀ X, Below w.heap.size w X → Calls Tryz.prog 20 #[.int .i64 11] X fun x w' => x = .returned (bot (e 11)) ∧ X = w') := Lib.hid (fun X hX => of_some e X (hs.below hX) 11 (by omega) (by omega))
 have HRE := Lib.hid h
 clear hs h hM hnn hok hkd hin hW
 unfold bot at HOF
 go_enter Tryz.func10, Tryz.ntmps10
 go_wp2_with fail
 refine HW0.out.mono ?_
 rintro x w1 ⟨rfl, hb1⟩
 have HB1 := Lib.hid hb1
 clear hb1
 go_wp2_with fail
 refine (HOF.out w1 HB1.out).mono ?_
 rintro x w2 ⟨rfl, rfl⟩
 go_wp2_with fail
 refine (wrap_At _ _ _ w1).mono ?_
 rintro x w2 ⟨rfl, hw2⟩
 have HB2 : Hid (Below w.heap.size w w2) := Lib.hid (by rw [hw2]; exact HB1.out.alloc HB1.out.size _)
 have HL := Lib.hid (nlangOf_any w2 b _ _ _ _ (blk_below HRE.out HB2.out))
 clear hw2
 go_wp2_with fail
 refine HL.out.mono ?_
 rintro x w3 ⟨⟨k, rfl⟩, rfl⟩
 go_wp2_with fail
 refine (wrap_In _ _ k w3).mono ?_
 rintro x w4 ⟨rfl, hw4⟩
 have HB4 : Hid (Below w.heap.size w w4) := Lib.hid (by rw [hw4]; exact HB2.out.alloc HB2.out.size _)
 clear hw4
 go_wp2
 go_ret2
 exact ⟨⟨_, rfl⟩, HB4.out⟩
theorem Nd.autA {t : Nd} (h : t.Ok) (hW : t.W + 1 ≤ 4000) {gb B : Nat} {w : World} (hg : GrAt B gb t.G.1 t.G.2 w) : AutA gb t.G.2 t.G.1 w :=
 ⟨⟨B, hg⟩, Nd.clG t h, Nd.g_acc t h, Nd.g_start t h, by have := Nd.lenB t h [.acc] 0; unfold Nd.G; simp at this; omega⟩
def SBlQ (r : RR) (w : World) (x : Ending) (w' : World) : Prop := Below w.heap.size w w' ∧ match r with
 | .ok t _ _ => if t.W + 1 ≤ 4000 then ∃ gb, x = .returned (.pointer (some ⟨gb, 0, none⟩)) ∧ AutA gb t.G.2 t.G.1 w' else x = .returned (.pointer none)
 | .bad _ _ => x = .returned (.pointer none)
theorem sbuild_any (cf : ByteArray → (Nat → Bool) × Bool) (e : Nat → Addr) (bv : Value) (l : List Int) (hcf : BkC cf l) (ext : Bool) (n : Nat) (r : RR) (w : World) (hs : Snt w e) (he : Es w w.heap.size e) (ht : Ety w) (hsl : Sl w bv l) (hnb : ∀ x o n cap, bv = .slice (some ⟨x, o, none⟩) n cap → x < w.heap.size) (hr : parseN cf l ext n = some r) :
  Calls Tryz.prog 5 #[bv, .bool ext] w (SBlQ r w) := by
 have HPA := Lib.hid (parse_any cf e bv l hcf ext n r w he ht hsl hnb hr)
 obtain ⟨sa, sc, rfl⟩ := sl_shapeL hsl
 cases r with
 | bad c p =>
  unfold ParP at HPA
  dsimp only at HPA
  unfold SBlQ
  clear hcf hs he ht hsl hnb hr
  go_enter Tryz.func5, Tryz.ntmps5
  go_wp2_with fail
  refine HPA.out.mono ?_
  rintro x w1 ⟨k, rfl, _, hb1⟩
  have HB := Lib.hid hb1
  clear hb1
  go_wp2
  go_ret
  exact ⟨HB.out, rfl⟩
 | ok t k0 g =>
  have hok := parseN_okN hsl.1 hr
  have hsz := (parseN_fit hsl.1 hr).2
  unfold ParP at HPA
  dsimp only at HPA
  unfold SBlQ
  by_cases hW : t.W + 1 ≤ 4000
  ·have HBU : Hid (∀ X p kv S, ReAt X p t kv g ext → t.In X S kv → Calls Tryz.prog 10 #[.pointer (some ⟨p, 0, none⟩)] X (BuQ t X)) := Lib.hid (fun X p kv S hre hi => build_at S X p t kv g ext hre (by omega) (by omega) hok.1 hok.2.2 hi hW)
   have HAU : Hid (∀ (X : World) gb B, GrAt B gb t.G.1 t.G.2 X → AutA gb t.G.2 t.G.1 X) := Lib.hid (fun X gb B hg => Nd.autA hok.1 hW hg)
   unfold BuQ at HBU
   clear hcf hs he ht hsl hnb hr hok hsz
   simp only [if_pos hW]
   clear hW
   go_enter Tryz.func5, Tryz.ntmps5
   go_wp2_with fail
   refine HPA.out.mono ?_
   rintro x w1 ⟨p, a, m, c, rfl, _, hrow, hin, hb1⟩
   have HT1 := Lib.hid (HBU.out w1 p _ _ hrow hin)
   have HB1 := Lib.hid hb1
   clear hrow hin hb1
   go_wp2_with fail
   refine HT1.out.mono ?_
   rintro x w2 ⟨B, gb, rfl, hB, hg, hb⟩
   have HR := Lib.hid (And.intro (HB1.out.trans (hb.mono HB1.out.size)) (HAU.out w2 gb B hg))
   clear hB hg hb
   go_wp2
   go_ret
   exact ⟨HR.out.1, gb, rfl, HR.out.2⟩
  ·have HBU : Hid (∀ X p kv S, Below w.heap.size w X → ReAt X p t kv g ext → t.In X S kv → Calls Tryz.prog 10 #[.pointer (some ⟨p, 0, none⟩)] X fun x w' => (∃ q, x = .returned (.tuple #[.pointer none, .iface 95 (.pointer q)])) ∧ Below X.heap.size X w') := Lib.hid (fun X p kv S hX hre hi => build_heavy e S X p t kv g ext (hs.below hX) hre (by omega) (by omega) hok.1 hok.2.2 hi (by omega))
   clear hcf hs he ht hsl hnb hr hok hsz
   simp only [if_neg hW]
   clear hW
   go_enter Tryz.func5, Tryz.ntmps5
   go_wp2_with fail
   refine HPA.out.mono ?_
   rintro x w1 ⟨p, a, m, c, rfl, _, hrow, hin, hb1⟩
   have HT1 := Lib.hid (HBU.out w1 p _ _ hb1 hrow hin)
   have HB1 := Lib.hid hb1
   clear hrow hin hb1
   go_wp2_with fail
   refine HT1.out.mono ?_
   rintro x w2 ⟨⟨q, rfl⟩, hb⟩
   have HR := Lib.hid (HB1.out.trans (hb.mono HB1.out.size))
   clear hb
   go_wp2
   go_ret
   exact ⟨HR.out, rfl⟩
end Go.Proofs.YtnpkcllbpnmabaaGreatDoor
namespace Go.Proofs.YtnpkcllbpnmabaaGreatDoor
set_option maxHeartbeats 8000000
set_option maxRecDepth 100000
open Go.RowKit
def aw10L : List Int := [97, 42, 98]
def aw10S : List Int := [120, 97, 97, 98]
def aw10T : Nd := joinN 4 [repN 0 (-1) (setN (mem [97])), setN (mem [98])]
theorem aw10_parse (cf : ByteArray → (Nat → Bool) × Bool) : parseN cf aw10L false 30 = some (.ok aw10T 3 0) := by kernel_rfl
theorem aw10_w : (decide (aw10T.W + 1 ≤ 4000)) = true := by kernel_rfl
theorem aw10_found : (passF aw10T.G aw10S 0 1).1 = some (1, 4) := by kernel_rfl
theorem sl3a {W : World} {b : Nat} {x y z : Int} {q : Nat × Nat} (h : W.heap[b]? = some (.cells #[.int .u8 x, .int .u8 y, .int .u8 z] 5 q)) (hb : Byt [x, y, z]) : Sl W (.slice (some ⟨b, 0, none⟩) 3 3) [x, y, z] :=
 ⟨hb, by simp, Or.inr ⟨b, 0, 3, rfl, by simp, by decide, fun i hi => by
  have h3 : i < 3 := hi
  rw [Lib.cell_of_heap h, Nat.zero_add]
  match i, h3 with
  | 0, _ => rfl
  | 1, _ => rfl
  | 2, _ => rfl⟩⟩
theorem sl4a {W : World} {b : Nat} {x y z u : Int} {q : Nat × Nat} (h : W.heap[b]? = some (.cells #[.int .u8 x, .int .u8 y, .int .u8 z, .int .u8 u] 5 q)) (hb : Byt [x, y, z, u]) : Sl W (.slice (some ⟨b, 0, none⟩) 4 4) [x, y, z, u] :=
 ⟨hb, by simp, Or.inr ⟨b, 0, 4, rfl, by simp, by decide, fun i hi => by
  have h3 : i < 4 := hi
  rw [Lib.cell_of_heap h, Nat.zero_add]
  match i, h3 with
  | 0, _ => rfl
  | 1, _ => rfl
  | 2, _ => rfl
  | 3, _ => rfl⟩⟩
theorem awake10_any (e : Nat → Addr) (w : World) (hs : Snt w e) (he : Es w w.heap.size e) (ht : Ety w) :
  Calls Tryz.prog 4 #[] w fun x w' => x = .returned (.bool true) ∧ Below w.heap.size w w' := by
 obtain ⟨W, hW⟩ : ∃ W, W = w.alloc (.cells #[.int .u8 97, .int .u8 42, .int .u8 98] 5 (3, 4)) := ⟨_, rfl⟩
 have hb : Below w.heap.size w W := by rw [hW]; exact (Below.refl _ _).alloc (Nat.le_refl _) _
 have hx : W.heap[w.heap.size]? = some (.cells #[.int .u8 97, .int .u8 42, .int .u8 98] 5 (3, 4)) := by rw [hW]; exact alloc_last w _
 have hz : W.heap.size = w.heap.size + 1 := by rw [hW]; simp
 have hsl : Sl W (.slice (some ⟨w.heap.size, 0, none⟩) 3 3) aw10L := sl3a hx (byt_ofR (by decide))
 have he1 : Es W W.heap.size e := ⟨(he.below hb).var, by have := he.low; omega, Nat.le_refl _⟩
 have HBU := Lib.hid (sbuild_any (fun _ => (fun _ => false, false)) e _ aw10L (bkC_none _ (by intro k hk; unfold aw10L at hk; match k, hk with | 0, hk => cases hk | 1, hk => cases hk | 2, hk => cases hk | k + 3, hk => cases hk)) false 30 (.ok aw10T 3 0) W (hs.below hb) he1 (ht.below hb) hsl (fun x o n cap hv => by simp only [Value.slice.injEq, Option.some.injEq, Addr.mk.injEq] at hv; omega) (aw10_parse _))
 unfold SBlQ at HBU
 dsimp only at HBU
 have hw10 : aw10T.W + 1 ≤ 4000 := of_decide_eq_true aw10_w
 simp only [if_pos hw10] at HBU
 clear hw10
 have HSE : Hid (∀ X gb, AutA gb aw10T.G.2 aw10T.G.1 X → Calls Tryz.prog 7 #[.pointer (some ⟨gb, 0, none⟩), .slice (some ⟨X.heap.size, 0, none⟩) 4 4, .int .i64 0] (X.alloc (.cells #[.int .u8 120, .int .u8 97, .int .u8 97, .int .u8 98] 5 (4, 5))) fun r w' => (∃ v : Nat, r = .returned (.agg #[.bool true, .int .i64 1, .int .i64 4, .int .i64 (v : Nat)])) ∧ Below X.heap.size X w') := Lib.hid (fun X gb hA => by
  have hc : Below X.heap.size X (X.alloc (.cells #[.int .u8 120, .int .u8 97, .int .u8 97, .int .u8 98] 5 (4, 5))) := (Below.refl _ _).alloc (Nat.le_refl _) _
  refine (ssearch_any gb aw10T.G.2 aw10T.G.1 _ aw10S 0 _ (hA.below hc) (sl4a (alloc_last X _) (byt_ofR (by decide))) (by decide)).mono ?_
  rintro r w' ⟨h1, h2⟩
  refine ⟨⟨(passF aw10T.G aw10S 0 1).2, ?_⟩, hc.trans (h2.mono hc.size)⟩
  rw [h1]
  have e1 : askF (aw10T.G.1, aw10T.G.2) aw10S 0 1 = (some (1, 4), (passF aw10T.G aw10S 0 1).2) := by
   unfold askF
   rw [if_neg (by decide)]
   exact Prod.ext aw10_found rfl
  rw [e1]
  rfl)
 have HB := Lib.hid hb
 have kc := fun (w : World) (C : Array Value) (n c : Nat) => Lib.run_convert_bytes_const (P := Tryz.prog) w 25 5 C n c Tryz.underlying25 Tryz.underlying5
 clear hs he ht hb hx hsl he1 hz
 subst hW
 go_enter Tryz.func4, Tryz.ntmps4
 go_wp2_with fail
 refine HBU.out.mono ?_
 rintro x w1 ⟨hb1, gb, rfl, hA⟩
 have HB1 := Lib.hid (below_thn HB.out (Nat.le_refl _) hb1)
 have HS1 := Lib.hid (HSE.out w1 gb hA)
 clear hb1 hA
 go_wp2_with fail
 refine HS1.out.mono ?_
 rintro x w2 ⟨⟨v, rfl⟩, hb2⟩
 have HB2 := Lib.hid (HB1.out.trans (hb2.mono HB1.out.size))
 have HB3 : Hid (Below w.heap.size w (w2.alloc (.cells #[.bool true, .int .i64 1, .int .i64 4, .int .i64 (v : Nat)] 31))) := Lib.hid (HB2.out.alloc HB2.out.size _)
 clear hb2
 go_wp2
 go_ret
 exact ⟨rfl, HB3.out⟩
def BelV (v : Value) (k : Nat) : Prop := ∀ x o n cap, v = .slice (some ⟨x, o, none⟩) n cap → x < k
end Go.Proofs.YtnpkcllbpnmabaaGreatDoor
