import Derived.Test.YtnpkcllbpnmabaaGreatDoorKPu
import Derived.Test.YtnpkcllbpnmabaaGreatDoorLiPart
import Derived.Test.YtnpkcllbpnmabaaGreatDoorGlPat
import Derived.Laws.AppendOwn
import Derived.Maps.AppendAt
namespace Go.Proofs.YtnpkcllbpnmabaaGreatDoor
open Go.RowKit
def Nd.cells (n : Nd) (kv : Value) : List Value := [.int .i64 n.kd, .int .u64 (sw n.p 0 : Nat), .int .u64 (sw n.p 1 : Nat), .int .u64 (sw n.p 2 : Nat), .int .u64 (sw n.p 3 : Nat), .int .i64 n.mn, .int .i64 n.mx, .int .i64 n.gp, kv]
def Nd.v (n : Nd) (kv : Value) : Value := .agg (n.cells kv).toArray
def nilS : Value := .slice none 0 0
theorem Nd.cells_len (n : Nd) (kv : Value) : (n.cells kv).length = 9 := rfl
def SameR (w w' : World) (S : Nat → Prop) : Prop := ∀ k, S k → ∀ cs, w.heap[k]? = some (.cells cs 57 (0, 0)) → w'.heap[k]? = w.heap[k]?
theorem SameR.below {w w' : World} {S : Nat → Prop} (hb : Below w.heap.size w w') : SameR w w' S := fun k _ _ h => hb.block k (lt_blkB h)
theorem SameR.mono {w w' : World} {S S' : Nat → Prop} (h : SameR w w' S) (hs : ∀ k, S' k → S k) : SameR w w' S' := fun k hk => h k (hs k hk)
theorem own_same {X X' : World} {B : Nat} {e : TypeId} {s : Nat} {v : Value} {n : Nat} {xs : List Value} (h : X.ownsRow B e s v n xs) (hb : ∀ b, v.ownBlock = some b → ∀ cs, X.heap[b]? = some (.cells cs e (0, 0)) → X'.heap[b]? = X.heap[b]?) : X'.ownsRow B e s v n xs := by
 obtain ⟨h0, h1 | ⟨g, cap, cur, rfl, h2, h3, h4⟩⟩ := h
 ·exact ⟨h0, Or.inl h1⟩
 ·exact ⟨h0, Or.inr ⟨g, cap, cur, rfl, h2, (hb g rfl _ h3).trans h3, h4⟩⟩
theorem own_base {X : World} {B B' : Nat} {e : TypeId} {s : Nat} {v : Value} {n : Nat} {xs : List Value} (h : X.ownsRow B e s v n xs) (hb : ∀ b, v.ownBlock = some b → B' ≤ b) : X.ownsRow B' e s v n xs := by
 obtain ⟨h0, h1 | ⟨g, cap, cur, rfl, h2, h3, h4⟩⟩ := h
 ·exact ⟨h0, Or.inl h1⟩
 ·exact ⟨h0, Or.inr ⟨g, cap, cur, rfl, hb g rfl, h3, h4⟩⟩
theorem own_ltB {X : World} {B : Nat} {e : TypeId} {s : Nat} {v : Value} {n : Nat} {xs : List Value} (h : X.ownsRow B e s v n xs) {b : Nat} (hb : v.ownBlock = some b) : B ≤ b ∧ b < X.heap.size := h.lt b hb
theorem own_shapeR {w : World} {base : Nat} {e : TypeId} {s : Nat} {v : Value} {n : Nat} {xs : List Value} (h : w.ownsRow base e s v n xs) : ∃ a0 cap, v = .slice a0 n cap := by
 obtain ⟨h1, ⟨rfl, rfl⟩ | ⟨g, cap, cur, rfl, _⟩⟩ := h
 ·exact ⟨none, 0, rfl⟩
 ·exact ⟨_, cap, rfl⟩
def KV (w : World) (S : Nat → Prop) (n : Nat) (kv : Value) (xs : List Value) : Prop := w.ownsRow 0 57 9 kv n xs ∧ ∀ b, kv.ownBlock = some b → S b
theorem KV.kept {w w' : World} {S : Nat → Prop} {n : Nat} {kv : Value} {xs : List Value} (h : KV w S n kv xs) (hk : SameR w w' S) : KV w' S n kv xs :=
 ⟨own_same h.1 fun b hb cs hc => hk b (h.2 b hb) cs hc, h.2⟩
theorem KV.mono {w : World} {S S' : Nat → Prop} {n : Nat} {kv : Value} {xs : List Value} (h : KV w S n kv xs) (hk : ∀ k, S k → k < w.heap.size → S' k) : KV w S' n kv xs :=
 ⟨h.1, fun b hb => hk b (h.2 b hb) (own_ltB h.1 hb).2⟩
theorem KV.nil (w : World) (S : Nat → Prop) : KV w S 0 nilS [] := ⟨World.ownsRow_nil _ _ _ _, fun b hb => by cases hb⟩
theorem KV.shape {w : World} {S : Nat → Prop} {n : Nat} {kv : Value} {xs : List Value} (h : KV w S n kv xs) : ∃ a cap, kv = .slice a n cap := own_shapeR h.1
def Fo.Lay (w : World) (S : Nat → Prop) : Fo → List Value → Prop
 | .nil, xs => xs = []
 | .cons kd p mn mx gp kids rest, xs => ∃ kv ks ys, xs = Nd.cells ⟨kd, p, mn, mx, gp, kids⟩ kv ++ ys ∧ KV w S kids.len kv ks ∧ kids.Lay w S ks ∧ rest.Lay w S ys
theorem Fo.Lay.kept {w w' : World} {S : Nat → Prop} (hk : SameR w w' S) : ∀ (f : Fo) (xs : List Value), f.Lay w S xs → f.Lay w' S xs
 | .nil, _, h => h
 | .cons _ _ _ _ _ kids rest, _, ⟨kv, ks, ys, e, h1, h2, h3⟩ => ⟨kv, ks, ys, e, h1.kept hk, Fo.Lay.kept hk kids ks h2, Fo.Lay.kept hk rest ys h3⟩
theorem Fo.Lay.mono {w : World} {S S' : Nat → Prop} (hk : ∀ k, S k → k < w.heap.size → S' k) : ∀ (f : Fo) (xs : List Value), f.Lay w S xs → f.Lay w S' xs
 | .nil, _, h => h
 | .cons _ _ _ _ _ kids rest, _, ⟨kv, ks, ys, e, h1, h2, h3⟩ => ⟨kv, ks, ys, e, h1.mono hk, Fo.Lay.mono hk kids ks h2, Fo.Lay.mono hk rest ys h3⟩
theorem Fo.Lay.len {w : World} {S : Nat → Prop} : ∀ (f : Fo) (xs : List Value), f.Lay w S xs → xs.length = f.len * 9
 | .nil, _, h => by have h' : _ = [] := h; subst h'; rfl
 | .cons _ _ _ _ _ kids rest, _, ⟨kv, ks, ys, e, h1, h2, h3⟩ => by
  rw [e, List.length_append, Nd.cells_len, Fo.Lay.len rest ys h3]
  show 9 + rest.len * 9 = (rest.len + 1) * 9
  omega
def Nd.In (w : World) (S : Nat → Prop) (n : Nd) (kv : Value) : Prop := ∃ ks, KV w S n.kids.len kv ks ∧ n.kids.Lay w S ks
theorem Nd.In.kept {w w' : World} {S : Nat → Prop} {n : Nd} {kv : Value} (h : n.In w S kv) (hk : SameR w w' S) : n.In w' S kv := by
 obtain ⟨ks, h1, h2⟩ := h
 exact ⟨ks, h1.kept hk, Fo.Lay.kept hk _ _ h2⟩
theorem Nd.In.mono {w : World} {S S' : Nat → Prop} {n : Nd} {kv : Value} (h : n.In w S kv) (hk : ∀ k, S k → k < w.heap.size → S' k) : n.In w S' kv := by
 obtain ⟨ks, h1, h2⟩ := h
 exact ⟨ks, h1.mono hk, Fo.Lay.mono hk _ _ h2⟩
theorem Nd.In.below {w w' : World} {S : Nat → Prop} {n : Nd} {kv : Value} (h : n.In w S kv) (hb : Below w.heap.size w w') : n.In w' S kv := h.kept (SameR.below hb)
theorem Nd.In.shape {w : World} {S : Nat → Prop} {n : Nd} {kv : Value} (h : n.In w S kv) : ∃ a m cap, kv = .slice a m cap := by
 obtain ⟨ks, h1, _⟩ := h
 obtain ⟨a, cap, e⟩ := h1.shape
 exact ⟨a, _, cap, e⟩
theorem leaf_in (w : World) (S : Nat → Prop) (n : Nd) (h : n.kids = .nil) : n.In w S nilS := by
 refine ⟨[], ?_, ?_⟩
 ·rw [h]; exact KV.nil w S
 ·rw [h]; rfl
theorem lay_one {w : World} {S : Nat → Prop} {n : Nd} {kv : Value} (h : n.In w S kv) : (fo [n]).Lay w S (n.cells kv) := by
 obtain ⟨ks, h1, h2⟩ := h
 exact ⟨kv, ks, [], by simp, h1, h2, rfl⟩
theorem lay_app {w : World} {S : Nat → Prop} : ∀ (a b : List Nd) (xs ys : List Value), (fo a).Lay w S xs → (fo b).Lay w S ys → (fo (a ++ b)).Lay w S (xs ++ ys)
 | [], _, xs, _, h, h' => by have e : xs = [] := h; subst e; exact h'
 | n :: a, b, _, ys, ⟨kv, ks, zs, e, h1, h2, h3⟩, h' => ⟨kv, ks, zs ++ ys, by rw [e, List.append_assoc], h1, h2, lay_app a b zs ys h3 h'⟩
theorem lay_snoc {w : World} {S : Nat → Prop} {a : List Nd} {n : Nd} {xs : List Value} {kv : Value} (h : (fo a).Lay w S xs) (hn : n.In w S kv) : (fo (a ++ [n])).Lay w S (xs ++ n.cells kv) := lay_app a [n] xs _ h (lay_one hn)
theorem lay_split {w : World} {S : Nat → Prop} : ∀ (a b : List Nd) (zs : List Value), (fo (a ++ b)).Lay w S zs → ∃ xs ys, zs = xs ++ ys ∧ (fo a).Lay w S xs ∧ (fo b).Lay w S ys
 | [], b, zs, h => ⟨[], zs, rfl, rfl, h⟩
 | n :: a, b, _, ⟨kv, ks, zs, e, h1, h2, h3⟩ => by
  obtain ⟨xs, ys, rfl, h4, h5⟩ := lay_split a b zs h3
  exact ⟨n.cells kv ++ xs, ys, by rw [e, List.append_assoc], ⟨kv, ks, xs, rfl, h1, h2, h4⟩, h5⟩
theorem lay_last {w : World} {S : Nat → Prop} {a : List Nd} {n : Nd} {zs : List Value} (h : (fo (a ++ [n])).Lay w S zs) : ∃ xs kv, zs = xs ++ n.cells kv ∧ (fo a).Lay w S xs ∧ n.In w S kv := by
 obtain ⟨xs, ys, rfl, h1, kv, ks, zs, e, h2, h3, h4⟩ := lay_split a [n] zs h
 have e4 : zs = [] := h4
 subst e4
 refine ⟨xs, kv, ?_, h1, ks, h2, h3⟩
 rw [e, List.append_nil]
theorem lay_at {w : World} {S : Nat → Prop} {l : List Nd} {zs : List Value} (h : (fo l).Lay w S zs) {k : Nat} {n : Nd} (hk : l[k]? = some n) : ∃ kv, n.In w S kv ∧ ∀ i, i < 9 → zs[k * 9 + i]? = (n.cells kv)[i]? := by
 obtain ⟨hlt, hn⟩ := List.getElem?_eq_some_iff.1 hk
 have e : l = l.take k ++ ([n] ++ l.drop (k + 1)) := by
  rw [← hn, List.singleton_append, List.getElem_cons_drop, List.take_append_drop]
 rw [e] at h
 obtain ⟨xs, ys, rfl, h1, h2⟩ := lay_split _ _ _ h
 obtain ⟨us, vs, rfl, ⟨kv, ks, ws, e2, h3, h4, h5⟩, h6⟩ := lay_split _ _ _ h2
 have e5 : ws = [] := h5
 subst e5
 have hl := Fo.Lay.len _ _ h1
 rw [fo_len, List.length_take, Nat.min_eq_left (by omega)] at hl
 refine ⟨kv, ⟨ks, h3, h4⟩, fun i hi => ?_⟩
 have e3 : us = n.cells kv := by rw [e2, List.append_nil]
 rw [e3, List.getElem?_append_right (by omega), List.getElem?_append_left (by rw [Nd.cells_len]; omega)]
 congr 1
 omega
theorem cells_one9 (n : Nd) (a : Option Addr) (m c : Nat) : ∀ u ∈ n.cells (.slice a m c), u.oneCell' = true := by
 intro u hu
 unfold Nd.cells at hu
 simp only [List.mem_cons, List.not_mem_nil, or_false] at hu
 rcases hu with rfl | rfl | rfl | rfl | rfl | rfl | rfl | rfl | rfl <;> rfl
theorem re_parts : ∃ i z, Tryz.prog.info? 57 = some i ∧ i.zero = some z ∧ i.size = 9 ∧ i.bytes = 88 ∧ z.cells.size = 9 := by
 have h : (Tryz.prog.info? 57).map (fun i => (i.zero.map (·.cells.size), i.size, i.bytes)) = some (some 9, 9, 88) := by kernel_rfl
 obtain ⟨i, hi, hzz⟩ := Option.map_eq_some_iff.1 h
 simp only [Prod.mk.injEq] at hzz
 obtain ⟨z, hz, hs⟩ := Option.map_eq_some_iff.1 hzz.1
 exact ⟨i, z, hi, hz, hzz.2.1, hzz.2.2, hs⟩
def OwnT (B : Nat) (v : Value) (l : List Nd) (w : World) : Prop := ∃ xs, w.ownsRow B 57 9 v l.length xs ∧ (fo l).Lay w (fun b => B ≤ b ∧ v.ownBlock ≠ some b) xs
theorem OwnT.nil (B : Nat) (w : World) : OwnT B nilS [] w := ⟨[], World.ownsRow_nil _ _ _ _, rfl⟩
theorem OwnT.kept {B : Nat} {v : Value} {l : List Nd} {w w' : World} (h : OwnT B v l w) (hk : SameR w w' (fun b => B ≤ b)) : OwnT B v l w' := by
 obtain ⟨xs, h1, h2⟩ := h
 exact ⟨xs, own_same h1 fun b hb cs hc => hk b (own_ltB h1 hb).1 cs hc, Fo.Lay.kept (hk.mono fun b hb => hb.1) _ _ h2⟩
theorem OwnT.below {B : Nat} {v : Value} {l : List Nd} {w w' : World} (h : OwnT B v l w) (hb : Below w.heap.size w w') : OwnT B v l w' := h.kept (SameR.below hb)
theorem OwnT.shape {B : Nat} {v : Value} {l : List Nd} {w : World} (h : OwnT B v l w) : ∃ a cap, v = .slice a l.length cap := by
 obtain ⟨xs, h1, _⟩ := h
 exact own_shapeR h1
theorem OwnT.row {B : Nat} {v : Value} {l : List Nd} {w : World} (h : OwnT B v l w) {b : Nat} (hb : v.ownBlock = some b) : B ≤ b ∧ b < w.heap.size := by
 obtain ⟨xs, h1, _⟩ := h
 exact own_ltB h1 hb
theorem OwnT.snoc {B : Nat} {v v' : Value} {l : List Nd} {w w' : World} {xs : List Value} {n : Nd} {kv : Value} (hlay : (fo l).Lay w (fun b => B ≤ b ∧ v.ownBlock ≠ some b) xs) (hn : n.In w (fun b => B ≤ b ∧ v.ownBlock ≠ some b) kv)
  (ho : w'.ownsRow B 57 9 v' (l.length + 1) (xs ++ n.cells kv)) (hg : w.grownBy w' v.ownBlock) (hv : v'.ownBlock = v.ownBlock ∨ v'.ownBlock = some w.heap.size) : OwnT B v' (l ++ [n]) w' := by
 have tr : ∀ (f : Fo) (zs : List Value), f.Lay w (fun b => B ≤ b ∧ v.ownBlock ≠ some b) zs → f.Lay w' (fun b => B ≤ b ∧ v'.ownBlock ≠ some b) zs := fun f zs hz => by
  have h1 := Fo.Lay.mono (S' := fun b => (B ≤ b ∧ v.ownBlock ≠ some b) ∧ v'.ownBlock ≠ some b) (fun b hb hl => ⟨hb, by
   rcases hv with e | e
   ·rw [e]; exact hb.2
   ·rw [e]; intro e'; obtain rfl := Option.some.inj e'; exact Nat.lt_irrefl _ hl⟩) f zs hz
  have h2 := Fo.Lay.kept (w' := w') (fun b hb cs hc => hg.block b (lt_blkB hc) (fun e => hb.1.2 e.symm)) f zs h1
  exact Fo.Lay.mono (fun b hb _ => ⟨hb.1.1, hb.2⟩) f zs h2
 refine ⟨xs ++ n.cells kv, by rw [List.length_append]; exact ho, ?_⟩
 exact tr _ _ (lay_snoc hlay hn)
theorem OwnT.kids {B : Nat} {v : Value} {l : List Nd} {w : World} (h : OwnT B v l w) : ∃ ks, KV w (fun b => B ≤ b) l.length v ks ∧ (fo l).Lay w (fun b => B ≤ b) ks := by
 obtain ⟨xs, h1, h2⟩ := h
 exact ⟨xs, ⟨own_base h1 (fun b _ => Nat.zero_le b), fun b hb => (own_ltB h1 hb).1⟩, Fo.Lay.mono (fun b hb _ => hb.1) _ _ h2⟩
theorem lit_row {w : World} {n : Nd} {kv : Value} {g : Nat} (hg : w.heap[g]? = some (.cells (n.cells kv).toArray 57 (0, 0))) (B : Nat) (hB : B ≤ g) : w.ownsRow B 57 9 (.slice (some ⟨g, 0, none⟩) 1 1) 1 (n.cells kv) :=
 ⟨rfl, Or.inr ⟨g, 1, _, rfl, hB, hg, Nat.le_refl _, by decide, rfl, rfl⟩⟩
theorem tlR {t : List Int} (ht : Byt t) (l : List UInt8) : ((ofBys t).toList == l) = decide (t = l.map fun c => (c.toNat : Int)) := by
 rw [Bool.eq_iff_iff]
 simp only [beq_iff_eq, decide_eq_true_eq]
 have e : bys (ofBys t) = t := bys_ofBys ht
 unfold bys at e
 rw [ByteArray.toList_eq]
 constructor
 ·intro h
  rw [← e, h]
 ·intro h
  have h2 : (ofBys t).data.toList.map (fun c => (c.toNat : Int)) = l.map fun c => (c.toNat : Int) := by rw [e, h]
  exact List.map_inj_right (fun a b hab => UInt8.toNat_inj.1 (by exact Int.ofNat.inj hab)) |>.1 h2
theorem tlR_some {t : List Int} (ht : t ≠ []) : (ofBys t).toList.isEmpty = false := by
 cases h : (ofBys t).toList with
 | nil =>
  rw [ByteArray.toList_eq] at h
  have := congrArg List.length h
  have hs := ofBys_size t
  have hs2 : (ofBys t).data.toList.length = (ofBys t).size := rfl
  rw [hs2, hs] at this
  exact absurd (List.length_eq_zero_iff.1 this) ht
 | cons => rfl
theorem ret_strR {a b : ByteArray} (h : a = b) : Ending.returned (.string a) = .returned (.string b) := by rw [h]
set_option maxHeartbeats 4000000 in
theorem role_const (t : List Int) (h : t = [] ∨ t = [92, 40] ∨ t = [92, 41] ∨ t = [92, 123] ∨ t = [40] ∨ t = [41] ∨ t = [123] ∨ t = [43] ∨ t = [63] ∨ t = [124] ∨ t = [46] ∨ t = [91] ∨ t = [94] ∨ t = [36] ∨ t = [42]) (ext : Bool) (w : World) : Calls Tryz.prog 53 #[.string (ofBys t), .bool ext] w fun x w' => x = .returned (.string (ofBys (roleS (roleC t ext)))) ∧ w' = w := by
 rcases h with rfl | rfl | rfl | rfl | rfl | rfl | rfl | rfl | rfl | rfl | rfl | rfl | rfl | rfl | rfl
 ·rw [show ofBys ([] : List Int) = ⟨#[]⟩ from rfl]
  cases ext
  all_goals
   go_enter Tryz.func53, Tryz.ntmps53
   go_wp2
   go_ret
   exact ⟨ret_strR (by kernel_rfl), rfl⟩
 ·rw [show ofBys [92, 40] = ⟨#[92, 40]⟩ from rfl]
  cases ext
  all_goals
   go_enter Tryz.func53, Tryz.ntmps53
   go_wp2
   go_ret
   exact ⟨ret_strR (by kernel_rfl), rfl⟩
 ·rw [show ofBys [92, 41] = ⟨#[92, 41]⟩ from rfl]
  cases ext
  all_goals
   go_enter Tryz.func53, Tryz.ntmps53
   go_wp2
   go_ret
   exact ⟨ret_strR (by kernel_rfl), rfl⟩
 ·rw [show ofBys [92, 123] = ⟨#[92, 123]⟩ from rfl]
  cases ext
  all_goals
   go_enter Tryz.func53, Tryz.ntmps53
   go_wp2
   go_ret
   exact ⟨ret_strR (by kernel_rfl), rfl⟩
 ·rw [show ofBys [40] = ⟨#[40]⟩ from rfl]
  cases ext
  all_goals
   go_enter Tryz.func53, Tryz.ntmps53
   go_wp2
   go_ret
   exact ⟨ret_strR (by kernel_rfl), rfl⟩
 ·rw [show ofBys [41] = ⟨#[41]⟩ from rfl]
  cases ext
  all_goals
   go_enter Tryz.func53, Tryz.ntmps53
   go_wp2
   go_ret
   exact ⟨ret_strR (by kernel_rfl), rfl⟩
 ·rw [show ofBys [123] = ⟨#[123]⟩ from rfl]
  cases ext
  all_goals
   go_enter Tryz.func53, Tryz.ntmps53
   go_wp2
   go_ret
   exact ⟨ret_strR (by kernel_rfl), rfl⟩
 ·rw [show ofBys [43] = ⟨#[43]⟩ from rfl]
  cases ext
  all_goals
   go_enter Tryz.func53, Tryz.ntmps53
   go_wp2
   go_ret
   exact ⟨ret_strR (by kernel_rfl), rfl⟩
 ·rw [show ofBys [63] = ⟨#[63]⟩ from rfl]
  cases ext
  all_goals
   go_enter Tryz.func53, Tryz.ntmps53
   go_wp2
   go_ret
   exact ⟨ret_strR (by kernel_rfl), rfl⟩
 ·rw [show ofBys [124] = ⟨#[124]⟩ from rfl]
  cases ext
  all_goals
   go_enter Tryz.func53, Tryz.ntmps53
   go_wp2
   go_ret
   exact ⟨ret_strR (by kernel_rfl), rfl⟩
 ·rw [show ofBys [46] = ⟨#[46]⟩ from rfl]
  cases ext
  all_goals
   go_enter Tryz.func53, Tryz.ntmps53
   go_wp2
   go_ret
   exact ⟨ret_strR (by kernel_rfl), rfl⟩
 ·rw [show ofBys [91] = ⟨#[91]⟩ from rfl]
  cases ext
  all_goals
   go_enter Tryz.func53, Tryz.ntmps53
   go_wp2
   go_ret
   exact ⟨ret_strR (by kernel_rfl), rfl⟩
 ·rw [show ofBys [94] = ⟨#[94]⟩ from rfl]
  cases ext
  all_goals
   go_enter Tryz.func53, Tryz.ntmps53
   go_wp2
   go_ret
   exact ⟨ret_strR (by kernel_rfl), rfl⟩
 ·rw [show ofBys [36] = ⟨#[36]⟩ from rfl]
  cases ext
  all_goals
   go_enter Tryz.func53, Tryz.ntmps53
   go_wp2
   go_ret
   exact ⟨ret_strR (by kernel_rfl), rfl⟩
 ·rw [show ofBys [42] = ⟨#[42]⟩ from rfl]
  cases ext
  all_goals
   go_enter Tryz.func53, Tryz.ntmps53
   go_wp2
   go_ret
   exact ⟨ret_strR (by kernel_rfl), rfl⟩
set_option maxHeartbeats 4000000 in
theorem role_any (t : List Int) (ht : Byt t) (ext : Bool) (w : World) : Calls Tryz.prog 53 #[.string (ofBys t), .bool ext] w fun x w' => x = .returned (.string (ofBys (roleS (roleC t ext)))) ∧ w' = w := by
 by_cases h : t = [] ∨ t = [92, 40] ∨ t = [92, 41] ∨ t = [92, 123] ∨ t = [40] ∨ t = [41] ∨ t = [123] ∨ t = [43] ∨ t = [63] ∨ t = [124] ∨ t = [46] ∨ t = [91] ∨ t = [94] ∨ t = [36] ∨ t = [42]
 ·exact role_const t h ext w
 ·simp only [not_or] at h
  obtain ⟨n0, n1, n2, n3, n4, n5, n6, n7, n8, n9, n10, n11, n12, n13, n14⟩ := h
  have e : roleC t ext = 0 := by unfold roleC; simp only [n0, n1, n2, n3, n4, n5, n6, n7, n8, n9, n10, n11, n12, n13, n14, or_self, if_false]
  rw [e]
  have f0 := tlR_some n0
  have f1 : ((ofBys t).toList == [92, 40]) = false := by rw [tlR ht]; exact decide_eq_false n1
  have f2 : ((ofBys t).toList == [92, 41]) = false := by rw [tlR ht]; exact decide_eq_false n2
  have f3 : ((ofBys t).toList == [92, 123]) = false := by rw [tlR ht]; exact decide_eq_false n3
  have f4 : ((ofBys t).toList == [40]) = false := by rw [tlR ht]; exact decide_eq_false n4
  have f5 : ((ofBys t).toList == [41]) = false := by rw [tlR ht]; exact decide_eq_false n5
  have f6 : ((ofBys t).toList == [123]) = false := by rw [tlR ht]; exact decide_eq_false n6
  have f7 : ((ofBys t).toList == [43]) = false := by rw [tlR ht]; exact decide_eq_false n7
  have f8 : ((ofBys t).toList == [63]) = false := by rw [tlR ht]; exact decide_eq_false n8
  have f9 : ((ofBys t).toList == [124]) = false := by rw [tlR ht]; exact decide_eq_false n9
  have f10 : ((ofBys t).toList == [46]) = false := by rw [tlR ht]; exact decide_eq_false n10
  have f11 : ((ofBys t).toList == [91]) = false := by rw [tlR ht]; exact decide_eq_false n11
  have f12 : ((ofBys t).toList == [94]) = false := by rw [tlR ht]; exact decide_eq_false n12
  have f13 : ((ofBys t).toList == [36]) = false := by rw [tlR ht]; exact decide_eq_false n13
  have f14 : ((ofBys t).toList == [42]) = false := by rw [tlR ht]; exact decide_eq_false n14
  clear n0 n1 n2 n3 n4 n5 n6 n7 n8 n9 n10 n11 n12 n13 n14 e
  generalize ofBys t = s at *
  go_enter Tryz.func53, Tryz.ntmps53
  go_wp2
  go_ret
  exact ⟨rfl, rfl⟩
theorem setN_v (p : Nat → Bool) : (setN p).v nilS = .agg #[.int .i64 1, .int .u64 (sw p 0 : Nat), .int .u64 (sw p 1 : Nat), .int .u64 (sw p 2 : Nat), .int .u64 (sw p 3 : Nat), .int .i64 0, .int .i64 0, .int .i64 0, .slice none 0 0] := rfl
theorem re_size : (Tryz.prog.info? 57).map (·.size) = some 9 := by kernel_rfl
set_option maxRecDepth 100000 in
set_option maxHeartbeats 4000000 in
theorem setOf_any (p : Nat → Bool) (w : World) : Calls Tryz.prog 55 #[SV p] w fun x w' => x = .returned ((setN p).v nilS) ∧ Below w.heap.size w w' := by
 rw [setN_v]
 unfold SV
 go_enter Tryz.func55, Tryz.ntmps55
 go_wp2
 exact bodyPost_ret (by simp [results, Tryz.results55, go_sem]) rfl ⟨rfl, ((Below.refl _ _).alloc (Nat.le_refl _) _).alloc (by simp) _⟩
set_option maxHeartbeats 4000000 in
theorem anyByte_any (w : World) : Calls Tryz.prog 56 #[] w fun x w' => x = .returned (SV allP) ∧ Below w.heap.size w w' := by
 have HN : ∀ X, Hid (Calls Tryz.prog 74 #[.agg #[.int .u64 0, .int .u64 0, .int .u64 0, .int .u64 0]] X fun x w' => x = .returned (.agg #[.int .u64 (sw allP 0 : Nat), .int .u64 (sw allP 1 : Nat), .int .u64 (sw allP 2 : Nat), .int .u64 (sw allP 3 : Nat)]) ∧ Below X.heap.size X w') := fun X => Lib.hid (by
  have := not_any noP X
  unfold SV at this
  have z : ∀ i, ((sw noP i : Nat) : Int) = 0 := sw_zero
  rw [z, z, z, z] at this
  exact this)
 unfold SV
 go_enter Tryz.func56, Tryz.ntmps56
 go_wp2_with fail
 refine (HN _).out.mono ?_
 rintro x w1 ⟨rfl, hb⟩
 have hb1 : w1.heap[w.heap.size]? = some (.cells #[.int .u64 0, .int .u64 0, .int .u64 0, .int .u64 0] 54) := (hb.block w.heap.size (by simp)).trans (alloc_last w _)
 obtain ⟨c0, c1, c2, c3⟩ : w1.cell? ⟨w.heap.size, 0, none⟩ = some (.int .u64 0) ∧ w1.cell? ⟨w.heap.size, 1, none⟩ = some (.int .u64 0) ∧ w1.cell? ⟨w.heap.size, 2, none⟩ = some (.int .u64 0) ∧ w1.cell? ⟨w.heap.size, 3, none⟩ = some (.int .u64 0) := ⟨(Lib.cell_of_heap hb1 0).trans rfl, (Lib.cell_of_heap hb1 1).trans rfl, (Lib.cell_of_heap hb1 2).trans rfl, (Lib.cell_of_heap hb1 3).trans rfl⟩
 have g0 := Lib.frozen_of_heap hb1 0
 have g1 := Lib.frozen_of_heap hb1 1
 have g2 := Lib.frozen_of_heap hb1 2
 have g3 := Lib.frozen_of_heap hb1 3
 have HB := Lib.hid (((Below.refl w.heap.size w).alloc (Nat.le_refl _) (.cells #[.int .u64 0, .int .u64 0, .int .u64 0, .int .u64 0] 54)).trans (hb.mono (by simp)))
 clear hb hb1
 go_wp2
 exact bodyPost_ret (by simp [results, Tryz.results56, go_sem, c0, c1, c2, c3]) rfl ⟨rfl, (((HB.out.setCell (Nat.le_refl _) _).setCell (Nat.le_refl _) _).setCell (Nat.le_refl _) _).setCell (Nat.le_refl _) _⟩
end Go.Proofs.YtnpkcllbpnmabaaGreatDoor
