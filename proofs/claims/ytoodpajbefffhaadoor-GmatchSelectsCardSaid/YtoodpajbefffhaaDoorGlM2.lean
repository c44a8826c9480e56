/- The contract of add (gen_add.py). -/
import Derived.Test.YtoodpajbefffhaaDoorLiReg
import Derived.Test.YtoodpajbefffhaaDoorKShf
import Derived.Test.YtoodpajbefffhaaDoorSeCnt
import Derived.Test.YtoodpajbefffhaaDoorKItx
import Derived.Test.YtoodpajbefffhaaDoorSeByt
import Derived.Test.YtoodpajbefffhaaDoorKMk
import Derived.Lib.Builder
/- A region that draws its order and ends in one store that waits for all else: each operation by itself; S until the store, S' behind it. -/
namespace Go.Proofs.YtoodpajbefffhaaDoor.Reg
open Go

def reachB (l : List Oper) : Nat → List Nat → List Nat
  | 0, s => s
  | n + 1, s => reachB l n (s ++ s.flatMap fun i => ((l[i]?).map depsOf).getD []).eraseDups
theorem reach_ok {l : List Oper} {L : Nat → Bool} (hc : ∀ i o, l[i]? = some o → L i = true → ∀ j, (depsOf o).contains j = true → L j = true) : ∀ (n : Nat) (s : List Nat), (∀ i ∈ s, L i = true) → ∀ j ∈ reachB l n s, L j = true
  | 0, _, h => h
  | n + 1, s, h => reach_ok hc n _ fun i hi => by
    rw [List.mem_eraseDups] at hi
    rcases List.mem_append.1 hi with hi | hi
    · exact h i hi
    · obtain ⟨k, hk, hi⟩ := List.mem_flatMap.1 hi
      cases ho : l[k]? with
      | none => rw [ho] at hi; simp at hi
      | some o =>
        rw [ho] at hi
        exact hc k o ho (h k hk) i (by simpa using hi)

/-- What an operation may look at: the values of those ahead of it; what the region does not write. -/
structure KnG (l : List Oper) (T0 : Array Value) (V : Nat → Option Value) (L : Nat → Bool) (u : Nat → Value) (o : Oper) (T : Array Value) : Prop where
  dep : ∀ k d, (depsOf o).contains k = true → ((l[k]?).bind (·.dst)) = some d → T[d]? = some (u k) ∧ L k = true ∧ ∀ x, V k = some x → u k = x
  out : ∀ k, (l.all fun o => o.dst != some k) = true → T[k]? = T0[k]?
theorem KnG.val {l : List Oper} {T0 : Array Value} {V : Nat → Option Value} {L : Nat → Bool} {u : Nat → Value} {o : Oper} {T : Array Value} (h : KnG l T0 V L u o T) (k d : Nat) {v : Value}
    (h1 : (depsOf o).contains k = true) (h2 : ((l[k]?).bind (·.dst)) = some d) (h3 : V k = some v) : T[d]? = some v := by
  obtain ⟨hx, _, hi⟩ := h.dep k d h1 h2
  rw [hx, hi v h3]
theorem KnG.any {l : List Oper} {T0 : Array Value} {V : Nat → Option Value} {L : Nat → Bool} {u : Nat → Value} {o : Oper} {T : Array Value} (h : KnG l T0 V L u o T) (k d : Nat)
    (h1 : (depsOf o).contains k = true) (h2 : ((l[k]?).bind (·.dst)) = some d) : T[d]? = some (u k) ∧ L k = true := ⟨(h.dep k d h1 h2).1, (h.dep k d h1 h2).2.1⟩
theorem KnG.old {l : List Oper} {T0 : Array Value} {V : Nat → Option Value} {L : Nat → Bool} {u : Nat → Value} {o : Oper} {T : Array Value} (h : KnG l T0 V L u o T) (k : Nat) {v : Value}
    (h1 : (l.all fun o => o.dst != some k) = true) (h2 : T0[k]? = some v) : T[k]? = some v := (h.out k h1).trans h2

/-- Each operation by itself; S knows which have come up, and their values. -/
def EachG (P : Program) (l : List Oper) (Q : Exit → Act → World → Prop) (ds : List Deferred) (T0 : Array Value) (S : (Nat → Bool) → (Nat → Value) → World → Prop) (V : Nat → Option Value) : List Oper → Nat → Prop
  | [], _ => True
  | o :: rest, i => (∀ L u T w, L i = false → (∀ z, (reachB l l.length [z]).contains i = true → L z = false) → S L u w → KnG l T0 V L u o T →
      ∀ K : Act → World → Prop, (∀ v w', S (upd L i true) (upd u i v) w' → (∀ x, V i = some x → v = x) → K (Act.put ⟨T, ds⟩ o.dst v) w') → One P l.toArray Q o T ds w K) ∧ EachG P l Q ds T0 S V rest (i + 1)

section
variable {P : Program} {l : List Oper} {Q : Exit → Act → World → Prop} {ds : List Deferred} {T0 : Array Value} {S : (Nat → Bool) → (Nat → Value) → World → Prop} {V : Nat → Option Value} {o : Oper} {rest : List Oper} {i : Nat}
theorem EachG.nil : EachG P l Q ds T0 S V [] i := trivial
theorem EachG.plain (hg : o.guard = none)
    (h1 : ∀ L u T w, L i = false → (∀ z, (reachB l l.length [z]).contains i = true → L z = false) → S L u w → KnG l T0 V L u o T → ∀ K : Act → World → Prop, (∀ v w', S (upd L i true) (upd u i v) w' → (∀ x, V i = some x → v = x) → K (Act.put ⟨T, ds⟩ o.dst v) w') → Oper.wp P o ⟨T, ds⟩ w K Q)
    (h2 : EachG P l Q ds T0 S V rest (i + 1)) : EachG P l Q ds T0 S V (o :: rest) i :=
  ⟨fun L u T w hL hz hS hk K hK => by unfold One; rw [if_pos (wanted_none hg)]; exact h1 L u T w hL hz hS hk K hK, h2⟩
end

/-- What is known while the region goes on. -/
structure Sto (l : List Oper) (S : (Nat → Bool) → (Nat → Value) → World → Prop) (V : Nat → Option Value) (L : Nat → Bool) (u : Nat → Value) (w : World) : Prop where
  shut : ∀ i o, l[i]? = some o → L i = true → ∀ j, (depsOf o).contains j = true → L j = true
  here : S L u w
  vals : ∀ j, L j = true → ∀ x, V j = some x → u j = x

theorem deps_done {o : Oper} {L : Nat → Bool} (hd : (o.after.all fun e => !Region.binds .any e || L e.on) = true) (k : Nat) (h : (depsOf o).contains k = true) : L k = true := by
  simp only [depsOf, List.contains_iff_mem, List.mem_map, List.mem_filter, Array.mem_toList_iff] at h
  obtain ⟨e, ⟨he, hb⟩, rfl⟩ := h
  have := (Array.all_eq_true_iff_forall_mem.1 hd) e he
  rw [hb] at this
  simpa using this

theorem EachG.each {P : Program} {l : List Oper} {Q : Exit → Act → World → Prop} {ds : List Deferred} {T0 : Array Value} {S : (Nat → Bool) → (Nat → Value) → World → Prop} {V : Nat → Option Value} :
    ∀ (r : List Oper) (i : Nat), (∀ j o, r[j]? = some o → l[i + j]? = some o) → EachG P l Q ds T0 S V r i → Each P l.toArray Q ds T0 (Sto l S V) r i
  | [], _, _, _ => trivial
  | o :: rest, i, hl, h => by
    refine ⟨fun L u T w hL hd hF hΦ K hK => ?_, EachG.each rest (i + 1) (fun j o' hj => by rw [show i + 1 + j = i + (j + 1) by omega]; exact hl (j + 1) o' (by simpa using hj)) h.2⟩
    have hi : l[i]? = some o := by have := hl 0 o (by simp); simpa using this
    have hLz : ∀ z, (reachB l l.length [z]).contains i = true → L z = false := fun z hz => by
      cases hb : L z with
      | false => rfl
      | true =>
        have hr := reach_ok hΦ.shut l.length [z] (fun k hk => by rw [List.mem_singleton.1 hk]; exact hb) i (by simpa using hz)
        rw [hL] at hr
        cases hr
    have hshut : ∀ k o', l[k]? = some o' → upd L i true k = true → ∀ j, (depsOf o').contains j = true → upd L i true j = true := by
      intro k o' hk hLk j hj
      by_cases hji : j = i
      · subst hji; exact upd_same _ _ _
      · rw [upd_ne _ _ hji]
        by_cases hki : k = i
        · subst hki
          rw [hi] at hk
          obtain rfl := Option.some.inj hk
          exact deps_done hd j hj
        · rw [upd_ne _ _ hki] at hLk
          exact hΦ.shut k o' hk hLk j hj
    refine h.1 L u T w hL hLz hΦ.here ⟨fun k d h1 h2 => ?_, fun k hk => hF.out k fun j o' hj he => ?_⟩ K fun v w' hS hV => hK v w' ⟨hshut, hS, fun j hj x hx => ?_⟩
    · have hk := deps_done hd k h1
      obtain ⟨o', ho', hd'⟩ := Option.bind_eq_some_iff.1 h2
      exact ⟨hF.val k o' d (by simpa using ho') hd' hk, hk, hΦ.vals k hk⟩
    · have := List.all_eq_true.1 hk o' (List.mem_of_getElem? (by simpa using hj))
      rw [he] at this
      simp at this
    · by_cases hji : j = i
      · subst hji; rw [upd_same]; exact hV x hx
      · rw [upd_ne _ _ hji] at hj ⊢
        exact hΦ.vals j hj x hx

/-- **A region that draws its order, with what has come up in the condition.** -/
theorem wp_region_sto {P : Program} {Q : Exit → Act → World → Prop} {id : Nat} {l : List Oper} {a : Act} {w : World} (S : (Nat → Bool) → (Nat → Value) → World → Prop) (V : Nat → Option Value)
    (hm : P.follows .mixedOrders = true) (hap : apartB l = true)
    (hd : (l.all fun o => match o.dst with | none => true | some k => k < a.tmps.size) = true)
    (hready : (l.zipIdx.all fun oi => oi.1.after.all fun e => !Region.binds .any e || e.on < oi.2) = true)
    (h0 : S (fun _ => false) (fun _ => undef) { w with drawn := w.drawn + 1 })
    (hE : EachG P l Q a.defers a.tmps S V l 0)
    (hend : ∀ L u w', (∀ j, j < l.length → L j = true) → S L u w' → (∀ j, j < l.length → ∀ x, V j = some x → u j = x) → Q .normal (putAll l 0 u a) w') : (Code.region id l.toArray true).wp P Q a w :=
  wp_region_each (Sto l S V) hm hap hd hready ⟨fun _ _ _ h => (by cases h), h0, fun _ h => by cases h⟩ (hE.each l 0 (fun j o hj => by rw [Nat.zero_add]; exact hj))
    fun L u w' hL hΦ => hend L u w' hL hΦ.here fun j hj => hΦ.vals j (hL j hj)
end Go.Proofs.YtoodpajbefffhaaDoor.Reg
/- The pieces of a pattern, read (pure). -/
namespace Go.Proofs.YtoodpajbefffhaaDoor
open Go.RowKit

/-- A piece: any bytes, any byte, one of a set. -/
inductive Pc where
  | many
  | one
  | byt (p : Nat → Bool)
def Pc.kind : Pc → Int
  | .many => 3
  | .one => 2
  | .byt _ => 1
def Pc.set : Pc → Nat → Bool
  | .byt p => p
  | _ => noP
def Pc.cells (x : Pc) : List Value := [.int .i64 x.kind, .int .u64 (sw x.set 0 : Nat), .int .u64 (sw x.set 1 : Nat), .int .u64 (sw x.set 2 : Nat), .int .u64 (sw x.set 3 : Nat)]
def Pc.v (x : Pc) : Value := .agg #[.int .i64 x.kind, .int .u64 (sw x.set 0 : Nat), .int .u64 (sw x.set 1 : Nat), .int .u64 (sw x.set 2 : Nat), .int .u64 (sw x.set 3 : Nat)]
def cellsL (ps : List Pc) : List Value := (ps.map Pc.cells).flatten
theorem cellsL_len (ps : List Pc) : (cellsL ps).length = ps.length * 5 := by
  unfold cellsL
  induction ps with
  | nil => rfl
  | cons x r ih => simp only [List.map_cons, List.flatten_cons, List.length_append, ih, List.length_cons]; rw [show x.cells.length = 5 from rfl]; omega
theorem cellsL_snoc (ps : List Pc) (x : Pc) : cellsL (ps ++ [x]) = cellsL ps ++ x.cells := by unfold cellsL; simp

/-- What a step reads: the piece, and how far. -/
def stepG (cf : ByteArray → (Nat → Bool) × Bool) (l : List Int) (k : Nat) : Pc × Nat :=
  if l.getD k 0 = 42 then (.many, 1)
  else if l.getD k 0 = 63 then (.one, 1)
  else if l.getD k 0 = 91 then
    match brkR cf (ofBys (l.drop (k + 1))) true 0 with
    | .ok p nx => (.byt p, 1 + nx)
    | .bad _ _ => (.byt (mem [91]), 1)
  else if l.getD k 0 = 92 then
    if k + 1 < l.length then (.byt (mem [l.getD (k + 1) 0]), 2) else (.byt (mem [92]), 1)
  else (.byt (mem [l.getD k 0]), 1)
def glN (cf : ByteArray → (Nat → Bool) × Bool) (l : List Int) : Nat → Nat → List Pc
  | 0, _ => []
  | n + 1, k => if k < l.length then (stepG cf l k).1 :: glN cf l n (k + (stepG cf l k).2) else []
def glP (cf : ByteArray → (Nat → Bool) × Bool) (l : List Int) : List Pc := glN cf l (l.length + 1) 0

theorem brkR_gt (cf : ByteArray → (Nat → Bool) × Bool) (s : ByteArray) (g : Bool) {q : Nat → Bool} {m : Nat} (h : brkR cf s g 0 = .ok q m) : 0 < m ∧ m ≤ s.size := by
  unfold brkR at h
  split at h
  · cases hb : brkL cf s g (s.size + 1 - (0 + 1)) (0 + 1) true noP with
    | bad c pos => rw [hb] at h; cases h
    | ok p nx =>
      rw [hb] at h
      simp only [brkT, BR.ok.injEq] at h
      obtain ⟨_, rfl⟩ := h
      have := brkL_gt cf _ _ _ _ _ _ hb
      omega
  · cases hb : brkL cf s g (s.size + 1 - 0) 0 true noP with
    | bad c pos => rw [hb] at h; cases h
    | ok p nx =>
      rw [hb] at h
      simp only [brkT, BR.ok.injEq] at h
      obtain ⟨_, rfl⟩ := h
      have := brkL_gt cf _ _ _ _ _ _ hb
      omega
theorem stepG_pos (cf : ByteArray → (Nat → Bool) × Bool) (l : List Int) (k : Nat) (hk : k < l.length) : 0 < (stepG cf l k).2 ∧ k + (stepG cf l k).2 ≤ l.length := by
  unfold stepG
  split
  · exact ⟨by simp, by simp; omega⟩
  split
  · exact ⟨by simp, by simp; omega⟩
  split
  · split
    · rename_i p nx hb
      have := brkR_gt cf _ _ hb
      rw [ofBys_size, List.length_drop] at this
      exact ⟨by simp; omega, by simp; omega⟩
    · exact ⟨by simp, by simp; omega⟩
  split
  · split
    · exact ⟨by simp, by simp; omega⟩
    · exact ⟨by simp, by simp; omega⟩
  · exact ⟨by simp, by simp; omega⟩
theorem glN_fuel (cf : ByteArray → (Nat → Bool) × Bool) (l : List Int) : ∀ n m k, l.length + 1 - k ≤ n → l.length + 1 - k ≤ m → 1 ≤ n → 1 ≤ m → glN cf l n k = glN cf l m k
  | 0, _, _, _, _, h, _ => absurd h (by omega)
  | _ + 1, 0, _, _, _, _, h => absurd h (by omega)
  | n + 1, m + 1, k, h1, h2, _, _ => by
    unfold glN
    by_cases hk : k < l.length
    · rw [if_pos hk, if_pos hk]
      have hs := stepG_pos cf l k hk
      rw [glN_fuel cf l n m _ (by omega) (by omega) (by omega) (by omega)]
    · rw [if_neg hk, if_neg hk]
theorem glN_step (cf : ByteArray → (Nat → Bool) × Bool) (l : List Int) (k : Nat) (hk : k < l.length) : glN cf l (l.length + 1) k = (stepG cf l k).1 :: glN cf l (l.length + 1) (k + (stepG cf l k).2) := by
  have hs := stepG_pos cf l k hk
  conv => lhs; unfold glN
  rw [if_pos hk, glN_fuel cf l l.length (l.length + 1) _ (by omega) (by omega) (by omega) (by omega)]
theorem glN_end (cf : ByteArray → (Nat → Bool) × Bool) (l : List Int) (k : Nat) (hk : ¬ k < l.length) : glN cf l (l.length + 1) k = [] := by
  unfold glN
  rw [if_neg hk]
theorem glN_len (cf : ByteArray → (Nat → Bool) × Bool) (l : List Int) : ∀ n k, (glN cf l n k).length ≤ l.length - k
  | 0, _ => by simp [glN]
  | n + 1, k => by
    unfold glN
    by_cases hk : k < l.length
    · rw [if_pos hk, List.length_cons]
      have hs := stepG_pos cf l k hk
      have := glN_len cf l n (k + (stepG cf l k).2)
      omega
    · rw [if_neg hk]; simp
theorem glP_len (cf : ByteArray → (Nat → Bool) × Bool) (l : List Int) : (glP cf l).length ≤ l.length := glN_len cf l _ 0

/-- The bytes of the pieces that are one byte alone. -/
def plain1 (x : Pc) : List Int := if cntS x.set = 1 then byL x.set 256 else []
def plainL (ps : List Pc) : List Int := (ps.map plain1).flatten
theorem plainL_snoc (ps : List Pc) (x : Pc) : plainL (ps ++ [x]) = plainL ps ++ plain1 x := by unfold plainL; simp
theorem plain1_len (x : Pc) : (plain1 x).length ≤ 1 := by
  unfold plain1
  split
  · rename_i h
    rw [cntS_len] at h
    omega
  · simp
theorem plainL_len (ps : List Pc) : (plainL ps).length ≤ ps.length := by
  unfold plainL
  induction ps with
  | nil => simp
  | cons x r ih => have := plain1_len x; simp only [List.map_cons, List.flatten_cons, List.length_append, List.length_cons]; omega
end Go.Proofs.YtoodpajbefffhaaDoor
/- Quoted texts and patterns side by side (pure). -/
namespace Go.Proofs.YtoodpajbefffhaaDoor
open Go.RowKit

theorem byt_of {l : List Int} (h : ∀ c ∈ l, 0 ≤ c ∧ c ≤ 255) : Byt l := fun i => by
  by_cases hi : i < l.length
  · rw [List.getD, List.getElem?_eq_getElem hi]
    exact h _ (List.getElem_mem hi)
  · rw [List.getD, List.getElem?_eq_none (by omega)]; simp
end Go.Proofs.YtoodpajbefffhaaDoor
/- A pattern in memory; rows of its own kept. -/
namespace Go.Proofs.YtoodpajbefffhaaDoor
open Go.RowKit

theorem grown_set (X : World) (b i : Nat) (y : Value) : X.grownBy (X.setCell ⟨b, i, none⟩ y) (some b) :=
  ⟨rfl, rfl, rfl, by simp, fun k _ hne => Below.heap_setCell _ _ _ _ (by simpa using hne)⟩
theorem own_neK {X : World} {B : Nat} {e T : TypeId} {s : Nat} {v : Value} {n : Nat} {xs : List Value} {b : Nat} {cs : Array Value} {fr : Nat × Nat} (hown : X.ownsRow B e s v n xs) (hb : X.heap[b]? = some (.cells cs T fr)) (hT : T ≠ e) : v.ownBlock ≠ some b := by
  intro he
  rcases hown.2 with ⟨rfl, _⟩ | ⟨g, cap, cur, rfl, _, hg, _⟩
  · cases he
  · simp only [Value.ownBlock, Option.some.injEq] at he
    subst he
    rw [hb] at hg
    simp only [Option.some.injEq, Obj.cells.injEq] at hg
    exact hT hg.2.1
theorem own_set {X : World} {B : Nat} {e T : TypeId} {s : Nat} {v : Value} {n : Nat} {xs : List Value} {b : Nat} {cs : Array Value} {fr : Nat × Nat} (hown : X.ownsRow B e s v n xs) (hb : X.heap[b]? = some (.cells cs T fr)) (hT : T ≠ e) (i : Nat) (y : Value) :
    (X.setCell ⟨b, i, none⟩ y).ownsRow B e s v n xs := hown.kept (grown_set X b i y) (Or.inr (own_neK hown hb hT))
theorem own_other {X X' : World} {B B' : Nat} {e e' : TypeId} {s s' : Nat} {v v' : Value} {n n' : Nat} {xs xs' : List Value} (h1 : X.ownsRow B e s v n xs) (h2 : X.ownsRow B' e' s' v' n' xs') (hne : e' ≠ e) (hg : X.grownBy X' v'.ownBlock) : X'.ownsRow B e s v n xs := by
  refine h1.kept hg ?_
  rcases h2.2 with ⟨rfl, _⟩ | ⟨g, cap, cur, rfl, _, hgb, _⟩
  · cases hv : v.ownBlock with
    | none => exact Or.inl rfl
    | some k => right; simp [Value.ownBlock]
  · right
    exact own_neK h1 hgb hne
theorem own_drop {X : World} {B : Nat} {e : TypeId} {s : Nat} {v : Value} {n : Nat} {xs : List Value} (hown : X.ownsRow B e s v n xs) {X' : World} (hb : Below X.heap.size X X') : X'.ownsRow B e s v n xs := owns_belowS hown hb
theorem blk_alloc {X : World} {k : Nat} {o : Obj} (h : X.heap[k]? = some o) (o' : Obj) : (X.alloc o').heap[k]? = some o := (Below.heap_alloc _ _ _ (lt_blkB h)).trans h
theorem blk_below {X X' : World} {k : Nat} {o : Obj} (h : X.heap[k]? = some o) (hb : Below X.heap.size X X') : X'.heap[k]? = some o := (hb.block k (lt_blkB h)).trans h
theorem blk_grown {X X' : World} {k : Nat} {o : Obj} {r : Option Nat} (h : X.heap[k]? = some o) (hg : X.grownBy X' r) (hne : r ≠ some k) : X'.heap[k]? = some o := (hg.block k (lt_blkB h) (fun e => hne e.symm)).trans h
theorem blk_set0 {X : World} {b : Nat} {u v y : Value} {T : TypeId} (h : X.heap[b]? = some (.cells #[v, u] T (0, 0))) : (X.setCell ⟨b, 0, none⟩ y).heap[b]? = some (.cells #[y, u] T (0, 0)) := by
  show (X.heap.modify b _)[b]? = _
  rw [Array.getElem?_modify, if_pos rfl, h]
  rfl
theorem blk_set1 {X : World} {b : Nat} {u v y : Value} {T : TypeId} (h : X.heap[b]? = some (.cells #[v, u] T (0, 0))) : (X.setCell ⟨b, 1, none⟩ y).heap[b]? = some (.cells #[v, y] T (0, 0)) := by
  show (X.heap.modify b _)[b]? = _
  rw [Array.getElem?_modify, if_pos rfl, h]
  rfl
theorem cells2 {X : World} {b : Nat} {u v : Value} {T : TypeId} (h : X.heap[b]? = some (.cells #[v, u] T (0, 0))) :
    (X.cell? ⟨b, 0, none⟩ = some v ∧ X.cell? ⟨b, 1, none⟩ = some u) ∧ (X.frozen? ⟨b, 0, none⟩ = false ∧ X.frozen? ⟨b, 1, none⟩ = false) ∧ b < X.heap.size :=
  ⟨⟨by rw [Lib.cell_of_heap h]; rfl, by rw [Lib.cell_of_heap h]; rfl⟩, ⟨Lib.frozen_of_heap h 0, Lib.frozen_of_heap h 1⟩, lt_blkB h⟩
theorem cells5 {X : World} {b : Nat} {a0 a1 a2 a3 a4 : Value} {T : TypeId} (h : X.heap[b]? = some (.cells #[a0, a1, a2, a3, a4] T (0, 0))) :
    X.cell? ⟨b, 0, none⟩ = some a0 ∧ X.cell? ⟨b, 1, none⟩ = some a1 ∧ X.cell? ⟨b, 2, none⟩ = some a2 ∧ X.cell? ⟨b, 3, none⟩ = some a3 ∧ X.cell? ⟨b, 4, none⟩ = some a4 :=
  ⟨by rw [Lib.cell_of_heap h]; rfl, by rw [Lib.cell_of_heap h]; rfl, by rw [Lib.cell_of_heap h]; rfl, by rw [Lib.cell_of_heap h]; rfl, by rw [Lib.cell_of_heap h]; rfl⟩

/-- The table of trailing noughts, below a block. -/
theorem TZ.belowB {w w' : World} {B : Nat} (h : TZ w) (hb : Below B w w') (hB : 21 < B) : TZ w' := fun j hj => by
  rw [hb.cell (by simpa using hB)]
  exact h j hj

/-- The pattern in block b holds these pieces. -/
def PatAt (B b : Nat) (ps : List Pc) (w : World) : Prop := B ≤ b ∧ ∃ v u, w.heap[b]? = some (.cells #[v, u] 64 (0, 0)) ∧ w.ownsRow B 41 5 v ps.length (cellsL ps) ∧ w.ownsRow B 5 1 u (plainL ps).length ((plainL ps).map (Value.int .u8))
theorem PatAt.next {B b : Nat} {ps : List Pc} {w w' : World} (h : PatAt B b ps w) (hb : Below w.heap.size w w') : PatAt B b ps w' := by
  obtain ⟨hB, v, u, h1, h2, h3⟩ := h
  exact ⟨hB, v, u, blk_below h1 hb, own_drop h2 hb, own_drop h3 hb⟩
theorem piece_parts : ∃ i z, Tryd.prog.info? 41 = some i ∧ i.zero = some z ∧ i.size = 5 ∧ i.bytes = 40 ∧ z.cells.size = 5 := by
  have h : (Tryd.prog.info? 41).map (fun i => (i.zero.map (·.cells.size), i.size, i.bytes)) = some (some 5, 5, 40) := by kernel_rfl
  obtain ⟨i, hi, hzz⟩ := Option.map_eq_some_iff.1 h
  simp only [Prod.mk.injEq] at hzz
  obtain ⟨z, hz, hs⟩ := Option.map_eq_some_iff.1 hzz.1
  exact ⟨i, z, hi, hz, hzz.2.1, hzz.2.2, hs⟩
end Go.Proofs.YtoodpajbefffhaaDoor
namespace Go.Proofs.YtoodpajbefffhaaDoor
open Go.RowKit

/-- The state within the first region: the piece is laid (6), appended (7), the row is stored (10). -/
structure Add1 (B b k0 : Nat) (W : World) (v u : Value) (n : Nat) (xs : List Value) (m : Nat) (ys : List Value) (cs : List Value) (d6 d7 d10 : Bool) (u6 u7 : Value) (X : World) : Prop where
  bel : Below B W X
  size : W.heap.size ≤ X.heap.size
  box : X.heap[k0]? = some (.cells cs.toArray 41 (0, 0))
  plain : X.ownsRow B 5 1 u m ys
  pat : d10 = false → X.heap[b]? = some (.cells #[v, u] 64 (0, 0))
  row : d7 = false → X.ownsRow B 41 5 v n xs
  lit : d6 = true → d7 = false → ∃ g, u6 = .slice (some ⟨g, 0, none⟩) 1 1 ∧ X.heap[g]? = some (.cells cs.toArray 41 (0, 0))
  new : d7 = true → X.ownsRow B 41 5 u7 (n + 1) (xs ++ cs)
  pat' : d10 = true → X.heap[b]? = some (.cells #[u7, u] 64 (0, 0))
/-- .. within the second: the bytes are told (7), appended (8), stored (11). -/
structure Add3 (B b k0 : Nat) (W : World) (v u : Value) (n : Nat) (xs : List Value) (m : Nat) (ys : List Value) (cs : List Value) (c : Int) (d7 d8 d11 : Bool) (u7 u8 : Value) (X : World) : Prop where
  bel : Below B W X
  size : W.heap.size ≤ X.heap.size
  box : X.heap[k0]? = some (.cells cs.toArray 41 (0, 0))
  row : X.ownsRow B 41 5 v n xs
  pat : d11 = false → X.heap[b]? = some (.cells #[v, u] 64 (0, 0))
  plain : d8 = false → X.ownsRow B 5 1 u m ys
  lit : d7 = true → d8 = false → ∃ g cap, u7 = .slice (some ⟨g, 0, none⟩) 1 cap ∧ X.cell? ⟨g, 0, none⟩ = some (.int .u8 c)
  new : d8 = true → X.ownsRow B 5 1 u8 (m + 1) (ys ++ [.int .u8 c])
  pat' : d11 = true → X.heap[b]? = some (.cells #[v, u8] 64 (0, 0))

theorem one5 (kd : Int) (a b c d : Nat) : ∀ x ∈ [Value.int .i64 kd, .int .u64 (a : Nat), .int .u64 (b : Nat), .int .u64 (c : Nat), .int .u64 (d : Nat)], x.oneCell' = true := by
  intro x hx
  simp only [List.mem_cons, List.not_mem_nil, or_false] at hx
  rcases hx with rfl | rfl | rfl | rfl | rfl <;> rfl
theorem news_of_blk {X : World} {g : Nat} {cs : List Value} {T : TypeId} (h : X.heap[g]? = some (.cells cs.toArray T (0, 0))) : ∀ j u, cs[j]? = some u → X.cell? ((⟨g, 0, none⟩ : Addr).add j) = some u := fun j u hj => by
  rw [WideShapes.add_plain, Nat.zero_add, Lib.cell_of_heap h]
  simpa using hj
theorem own_shapeK {w : World} {base : Nat} {e : TypeId} {s : Nat} {v : Value} {n : Nat} {xs : List Value} (h : w.ownsRow base e s v n xs) : ∃ a0 cap, v = .slice a0 n cap := by
  obtain ⟨h1, ⟨rfl, rfl⟩ | ⟨g, cap, cur, rfl, _⟩⟩ := h
  · exact ⟨none, 0, rfl⟩
  · exact ⟨_, cap, rfl⟩

set_option maxRecDepth 100000 in
set_option maxHeartbeats 8000000 in
theorem add_any (B b : Nat) (ps : List Pc) (x : Pc) (w : World) (h : PatAt B b ps w) (hBw : B ≤ w.heap.size) (hTB : 21 < B) (hlen : ps.length ≤ 1048576) (hT : TZ w) :
    Calls Tryd.prog 46 #[.pointer (some ⟨b, 0, none⟩), x.v] w fun e w' => e = .returned (.tuple #[]) ∧ PatAt B b (ps ++ [x]) w' ∧ Below B w w' := by
  obtain ⟨hB, v, u, hpb, hrow, hplain⟩ := h
  have hpl := plainL_len ps
  have HX : Hid (cellsL (ps ++ [x]) = cellsL ps ++ x.cells) := Lib.hid (cellsL_snoc ps x)
  have HP : Hid (plainL (ps ++ [x]) = plainL ps ++ plain1 x) := Lib.hid (plainL_snoc ps x)
  have HL : ∀ w, Hid (Calls Tryd.prog 62 #[SV x.set] w fun e w' => e = .returned (.int .i64 (cntS x.set : Nat)) ∧ Below w.heap.size w w') := fun w => Lib.hid (len_any x.set w)
  have H1 : Hid (plain1 x = if cntS x.set = 1 then byL x.set 256 else []) := Lib.hid rfl
  have HC1 : Hid (cntS x.set = (byL x.set 256).length) := Lib.hid (cntS_len x.set)
  have HBY : ∀ w, TZ w → Hid (Calls Tryd.prog 63 #[SV x.set] w fun e w' => ∃ v, e = .returned v ∧ w'.ownsRow w.heap.size 5 1 v (byL x.set 256).length ((byL x.set 256).map (Value.int .u8)) ∧ Below w.heap.size w w') := fun w hT => Lib.hid (bytes_any x.set w hT)
  obtain ⟨i0, z0, hi, hz0, hz1, hz2, hz3⟩ := piece_parts
  obtain ⟨i1, ki, kz0, kz1, kz2⟩ := info_parts byte_row
  unfold Pc.v
  obtain ⟨cs, hcs⟩ : ∃ cs, cs = x.cells := ⟨_, rfl⟩
  have hcs' : cs = [.int .i64 x.kind, .int .u64 (sw x.set 0 : Nat), .int .u64 (sw x.set 1 : Nat), .int .u64 (sw x.set 2 : Nat), .int .u64 (sw x.set 3 : Nat)] := hcs
  rw [← hcs] at HX
  clear hcs
  generalize x.kind = kd at *
  generalize x.set = p at *
  unfold SV at HL HBY
  generalize cntS p = N at *
  have HT := Lib.hid hT
  have hlt : b < w.heap.size := lt_blkB hpb
  have hsz : ((w.alloc (.cells #[.int .i64 kd, .int .u64 (sw p 0 : Nat), .int .u64 (sw p 1 : Nat), .int .u64 (sw p 2 : Nat), .int .u64 (sw p 3 : Nat)] 41)).heap.size) = w.heap.size + 1 := by simp
  obtain ⟨W, hW⟩ : ∃ W, W = w.alloc (.cells #[.int .i64 kd, .int .u64 (sw p 0 : Nat), .int .u64 (sw p 1 : Nat), .int .u64 (sw p 2 : Nat), .int .u64 (sw p 3 : Nat)] 41) := ⟨_, rfl⟩
  rw [← hW] at hsz
  have HBW : Hid (Below B w W) := Lib.hid (by rw [hW]; exact (Below.refl _ _).alloc hBw _)
  have HBX : Hid (W.heap[w.heap.size]? = some (.cells cs.toArray 41 (0, 0))) := Lib.hid (by rw [hW, hcs']; exact alloc_last w _)
  have HPB : Hid (W.heap[b]? = some (.cells #[v, u] 64 (0, 0))) := Lib.hid (by rw [hW]; exact blk_alloc hpb _)
  have HRW : Hid (W.ownsRow B 41 5 v ps.length (cellsL ps)) := Lib.hid (by rw [hW]; exact hrow.alloc _)
  have HPW : Hid (W.ownsRow B 5 1 u (plainL ps).length ((plainL ps).map (Value.int .u8))) := Lib.hid (by rw [hW]; exact hplain.alloc _)
  have HVK : Hid (v.ownBlock ≠ some w.heap.size) := Lib.hid (fun e => by have := (hrow.lt _ e).2; omega)
  have HCS := Lib.hid hcs'
  have HWE := Lib.hid hW
  clear hrow hplain hpb hT hW hcs'
  go_enter Tryd.func46, Tryd.ntmps46
  go_wp2_with fail
  rw [← HWE.out]
  refine Reg.wp_region_sto (fun L u' X => Add1 B b w.heap.size W v u ps.length (cellsL ps) (plainL ps).length ((plainL ps).map (Value.int .u8)) cs (L 6) (L 7) (L 10) (u' 6) (u' 7) X) (fun j => ([some (.pointer (some ⟨b, 0, none⟩)), some (.pointer (some ⟨b, 0, none⟩)), some (.pointer (some ⟨b, 0, none⟩)), some (.pointer (some ⟨b, 0, none⟩)), some (v), some (.agg #[.int .i64 kd, .int .u64 (sw p 0 : Nat), .int .u64 (sw p 1 : Nat), .int .u64 (sw p 2 : Nat), .int .u64 (sw p 3 : Nat)]), none, none, some (.pointer (some ⟨b, 0, none⟩)), some (.pointer (some ⟨b, 0, none⟩)), none] : List (Option Value)).getD j none) (by kernel_rfl) (by kernel_rfl) (by kernel_rfl) (by kernel_rfl) ?rs0 ?rsE ?rsZ
  case rs0 => exact ⟨(Below.refl _ _).drew, Nat.le_refl _, HBX.out, HPW.out, fun _ => HPB.out, fun _ => HRW.out, fun h => (by cases h), fun h => (by cases h), fun h => (by cases h)⟩
  case rsE =>
    refine Reg.EachG.plain rfl (fun L u' T X hL hz hS hk K hK => ?_) ?_
    · skip
      have g0 : T[0]? = some (.pointer (some ⟨b, 0, none⟩)) := hk.old 0 (by kernel_rfl) rfl
      have hK := hK _ X hS (fun _ hx => Option.some.inj hx)
      clear hk hz hL
      go_simp
      exact hK
    refine Reg.EachG.plain rfl (fun L u' T X hL hz hS hk K hK => ?_) ?_
    · skip
      have g0 : T[0]? = some (.pointer (some ⟨b, 0, none⟩)) := hk.old 0 (by kernel_rfl) rfl
      have hK := hK _ X hS (fun _ hx => Option.some.inj hx)
      clear hk hz hL
      go_simp
      exact hK
    refine Reg.EachG.plain rfl (fun L u' T X hL hz hS hk K hK => ?_) ?_
    · skip
      have g5 : T[5]? = some (.pointer (some ⟨b, 0, none⟩)) := hk.val 1 5 (by kernel_rfl) (by kernel_rfl) rfl
      have hK := hK _ X hS (fun _ hx => Option.some.inj hx)
      clear hk hz hL
      go_simp
      exact hK
    refine Reg.EachG.plain rfl (fun L u' T X hL hz hS hk K hK => ?_) ?_
    · skip
      have g6 : T[6]? = some (.pointer (some ⟨b, 0, none⟩)) := hk.val 2 6 (by kernel_rfl) (by kernel_rfl) rfl
      have hK := hK _ X hS (fun _ hx => Option.some.inj hx)
      clear hk hz hL
      go_simp
      exact hK
    refine Reg.EachG.plain rfl (fun L u' T X hL hz hS hk K hK => ?_) ?_
    · skip
      have g7 : T[7]? = some (.pointer (some ⟨b, 0, none⟩)) := hk.val 3 7 (by kernel_rfl) (by kernel_rfl) rfl
      have hd : L 10 = false := hz 10 (by kernel_rfl)
      obtain ⟨⟨c0, c1⟩, _, hbz⟩ := cells2 (hS.pat hd)
      have hK := hK _ X hS (fun _ hx => Option.some.inj hx)
      clear hk hz hL hd
      go_simp
      exact hK
    refine Reg.EachG.plain rfl (fun L u' T X hL hz hS hk K hK => ?_) ?_
    · skip
      have g3 : T[3]? = some (.pointer (some ⟨w.heap.size, 0, none⟩)) := hk.old 3 (by kernel_rfl) rfl
      have hbx := hS.box
      rw [HCS.out] at hbx
      obtain ⟨c0, c1, c2, c3, c4⟩ := cells5 hbx
      have hK := hK _ X hS (fun _ hx => Option.some.inj hx)
      clear hk hz hL hbx
      go_simp
      exact hK
    refine Reg.EachG.plain rfl (fun L u' T X hL hz hS hk K hK => ?_) ?_
    · skip
      have g9 : T[9]? = some (.agg #[.int .i64 kd, .int .u64 (sw p 0 : Nat), .int .u64 (sw p 1 : Nat), .int .u64 (sw p 2 : Nat), .int .u64 (sw p 3 : Nat)]) := hk.val 5 9 (by kernel_rfl) (by kernel_rfl) rfl
      have hd7 : L 7 = false := hz 7 (by kernel_rfl)
      have hd10 : L 10 = false := hz 10 (by kernel_rfl)
      have hK := hK (.slice (some ⟨X.heap.size, 0, none⟩) 1 1) (X.alloc (.cells #[.int .i64 kd, .int .u64 (sw p 0 : Nat), .int .u64 (sw p 1 : Nat), .int .u64 (sw p 2 : Nat), .int .u64 (sw p 3 : Nat)] 41)) ⟨(hS.bel).alloc (Nat.le_trans (by omega) hS.size) _, by have := hS.size; simp; omega, blk_alloc hS.box _, hS.plain.alloc _, fun _ => blk_alloc (hS.pat hd10) _, fun _ => (hS.row hd7).alloc _, fun _ _ => ⟨_, rfl, by rw [HCS.out]; exact alloc_last X _⟩, fun h => (by rw [Reg.upd_ne _ _ (by decide), hd7] at h; cases h), fun h => (by rw [Reg.upd_ne _ _ (by decide), hd10] at h; cases h)⟩ (fun _ hx => by cases hx)
      clear hk hz hL hd7 hd10 hS
      go_simp
      exact hK
    refine Reg.EachG.plain rfl (fun L u' T X hL hz hS hk K hK => ?_) ?_
    · skip
      have g8 : T[8]? = some (v) := hk.val 4 8 (by kernel_rfl) (by kernel_rfl) rfl
      obtain ⟨g10, l10⟩ := hk.any 6 10 (by kernel_rfl) (by kernel_rfl)
      have hd10 : L 10 = false := hz 10 (by kernel_rfl)
      obtain ⟨g, e6, hg⟩ := hS.lit l10 hL
      rw [e6] at g10
      refine wp_append_own X (.tmp 8) (.tmp 10) 24 rfl B 41 i0 z0 5 40 Tryd.underlying24 hi hz0 hz1 hz2 hz3 (by decide) v ps.length (cellsL ps) (by simp [Act.eval, g8]) (hS.row hL) ⟨g, 0, none⟩ 1 1 cs (by simp [Act.eval, g10]) (by rw [HCS.out]; rfl) (news_of_blk hg) (by rw [HCS.out]; exact one5 _ _ _ _ _) (by unfold maxLen; omega) (by omega) (Nat.le_trans hBw (by have := hS.size; omega)) ?_
      intro v' w' hown hgr _
      exact hK v' w' ⟨(hS.bel).grown hgr (Nat.le_trans hBw (by have := hS.size; omega)) (fun k hk => ((hS.row hL).lt k hk).1), Nat.le_trans hS.size hgr.size, blk_grown hS.box hgr HVK.out, own_other hS.plain (hS.row hL) (by decide) hgr, fun _ => blk_grown (hS.pat hd10) hgr (own_neK (hS.row hL) (hS.pat hd10) (by decide)), fun h => (by rw [Reg.upd_same] at h; cases h), fun _ h => (by rw [Reg.upd_same] at h; cases h), fun _ => (by rw [Reg.upd_same]; exact hown), fun h => (by rw [Reg.upd_ne _ _ (by decide), hd10] at h; cases h)⟩ (fun _ hx => by cases hx)
    refine Reg.EachG.plain rfl (fun L u' T X hL hz hS hk K hK => ?_) ?_
    · skip
      have g4 : T[4]? = some (.pointer (some ⟨b, 0, none⟩)) := hk.val 0 4 (by kernel_rfl) (by kernel_rfl) rfl
      have hK := hK _ X hS (fun _ hx => Option.some.inj hx)
      clear hk hz hL
      go_simp
      exact hK
    refine Reg.EachG.plain rfl (fun L u' T X hL hz hS hk K hK => ?_) ?_
    · skip
      have g12 : T[12]? = some (.pointer (some ⟨b, 0, none⟩)) := hk.val 8 12 (by kernel_rfl) (by kernel_rfl) rfl
      have hK := hK _ X hS (fun _ hx => Option.some.inj hx)
      clear hk hz hL
      go_simp
      exact hK
    refine Reg.EachG.plain rfl (fun L u' T X hL hz hS hk K hK => ?_) ?_
    · skip
      obtain ⟨g11, l11⟩ := hk.any 7 11 (by kernel_rfl) (by kernel_rfl)
      have g13 : T[13]? = some (.pointer (some ⟨b, 0, none⟩)) := hk.val 9 13 (by kernel_rfl) (by kernel_rfl) rfl
      obtain ⟨⟨c0, c1⟩, ⟨f0, f1⟩, hbz⟩ := cells2 (hS.pat hL)
      have hnew := hS.new l11
      have hK := hK undef (X.setCell ⟨b, 0, none⟩ (u' 7)) ⟨(hS.bel).setCell (p := ⟨b, 0, none⟩) hB _, by have := hS.size; simpa using this, (Below.heap_setCell _ _ _ _ (by simp; omega)).trans hS.box, own_set hS.plain (hS.pat hL) (by decide) _ _, fun h => (by rw [Reg.upd_same] at h; cases h), fun h => (by rw [Reg.upd_ne _ _ (by decide), l11] at h; cases h), fun _ h => (by rw [Reg.upd_ne _ _ (by decide), l11] at h; cases h), fun _ => (by rw [Reg.upd_ne _ _ (by decide)]; exact own_set hnew (hS.pat hL) (by decide) _ _), fun _ => (by rw [Reg.upd_ne _ _ (by decide)]; exact blk_set0 (hS.pat hL))⟩ (fun _ hx => by cases hx)
      obtain ⟨a7, cap7, e7⟩ := own_shapeK hnew
      rw [e7] at hK g11
      clear hk hz hL hS hnew
      go_simp
      exact hK
    exact Reg.EachG.nil
  case rsZ =>
    intro L u' w1 hL hS hI
    have e0 : u' 0 = .pointer (some ⟨b, 0, none⟩) := hI 0 (by decide) _ rfl
    have e1 : u' 1 = .pointer (some ⟨b, 0, none⟩) := hI 1 (by decide) _ rfl
    have e2 : u' 2 = .pointer (some ⟨b, 0, none⟩) := hI 2 (by decide) _ rfl
    have e3 : u' 3 = .pointer (some ⟨b, 0, none⟩) := hI 3 (by decide) _ rfl
    have e4 : u' 4 = v := hI 4 (by decide) _ rfl
    have e5 : u' 5 = .agg #[.int .i64 kd, .int .u64 (sw p 0 : Nat), .int .u64 (sw p 1 : Nat), .int .u64 (sw p 2 : Nat), .int .u64 (sw p 3 : Nat)] := hI 5 (by decide) _ rfl
    have e8 : u' 8 = .pointer (some ⟨b, 0, none⟩) := hI 8 (by decide) _ rfl
    have e9 : u' 9 = .pointer (some ⟨b, 0, none⟩) := hI 9 (by decide) _ rfl
    clear hI
    simp only [Reg.putAll, Act.put, List.setIfInBounds_toArray, List.set_cons_succ, List.set_cons_zero, Nat.zero_add, Nat.reduceAdd, e0, e1, e2, e3, e4, e5, e8, e9]
    clear e0 e1 e2 e3 e4 e5 e8 e9
    have d7 := hL 7 (by decide)
    have d10 := hL 10 (by decide)
    have hnew := hS.new d7
    have hpat := hS.pat' d10
    have HB1 := Lib.hid (HBW.out.trans hS.bel)
    have HBX1 := Lib.hid hS.box
    have HPL1 := Lib.hid hS.plain
    have HNEW := Lib.hid hnew
    have HPAT := Lib.hid hpat
    have hsz1 := hS.size
    generalize u' 6 = y6 at *
    generalize u' 7 = y7 at *
    clear hS hnew hpat d7 d10 hL u' L
    have hbx := HBX1.out
    rw [HCS.out] at hbx
    obtain ⟨c0, c1, c2, c3, c4⟩ := cells5 hbx
    clear hbx
    have hkz : w.heap.size < w1.heap.size := by omega
    go_wp2_with fail
    refine (HL _).out.mono ?_
    rintro e w2 ⟨rfl, hb2⟩
    have HB2 := Lib.hid (HB1.out.trans (hb2.mono (Nat.le_trans hBw (by omega))))
    have HBX2 := Lib.hid (blk_below HBX1.out hb2)
    have HPL2 := Lib.hid (own_drop HPL1.out hb2)
    have HNEW2 := Lib.hid (own_drop HNEW.out hb2)
    have HPAT2 := Lib.hid (blk_below HPAT.out hb2)
    have hsz2 := hb2.size
    clear hb2 c0 c1 c2 c3 c4
    by_cases hN : N = 1
    · subst hN
      have hl1 : (byL p 256).length = 1 := HC1.out.symm
      obtain ⟨c, hc⟩ : ∃ c, byL p 256 = [c] := by
        match hby : byL p 256, hl1 with
        | [c], _ => exact ⟨c, rfl⟩
      have HCB := Lib.hid hc
      have hTX : ∀ X, Below B w2 X → TZ X := fun X hX => (HT.out.belowB HB2.out hTB).belowB hX hTB
      have HTX := Lib.hid hTX
      clear hl1 hc hTX HC1
      go_wp2_with fail
      refine Reg.wp_region_sto (fun L u' X => Add3 B b w.heap.size w2 y7 u (ps.length + 1) (cellsL ps ++ cs) (plainL ps).length ((plainL ps).map (Value.int .u8)) cs c (L 7) (L 8) (L 11) (u' 7) (u' 8) X) (fun j => ([some (.pointer (some ⟨b, 0, none⟩)), some (.pointer (some ⟨b, 0, none⟩)), some (.pointer (some ⟨b, 0, none⟩)), some (.pointer (some ⟨b, 1, none⟩)), some (u), some (.pointer (some ⟨w.heap.size, 1, none⟩)), some (.agg #[.int .u64 (sw p 0 : Nat), .int .u64 (sw p 1 : Nat), .int .u64 (sw p 2 : Nat), .int .u64 (sw p 3 : Nat)]), none, none, some (.pointer (some ⟨b, 0, none⟩)), some (.pointer (some ⟨b, 1, none⟩)), none] : List (Option Value)).getD j none) (by kernel_rfl) (by kernel_rfl) (by kernel_rfl) (by kernel_rfl) ?rs0 ?rsE ?rsZ
      case rs0 => exact ⟨(Below.refl _ _).drew, Nat.le_refl _, HBX2.out, HNEW2.out, fun _ => HPAT2.out, fun _ => HPL2.out, fun h => (by cases h), fun h => (by cases h), fun h => (by cases h)⟩
      case rsE =>
        refine Reg.EachG.plain rfl (fun L u' T X hL hz hS hk K hK => ?_) ?_
        · skip
          have g0 : T[0]? = some (.pointer (some ⟨b, 0, none⟩)) := hk.old 0 (by kernel_rfl) rfl
          have hK := hK _ X hS (fun _ hx => Option.some.inj hx)
          clear hk hz hL
          go_simp
          exact hK
        refine Reg.EachG.plain rfl (fun L u' T X hL hz hS hk K hK => ?_) ?_
        · skip
          have g0 : T[0]? = some (.pointer (some ⟨b, 0, none⟩)) := hk.old 0 (by kernel_rfl) rfl
          have hK := hK _ X hS (fun _ hx => Option.some.inj hx)
          clear hk hz hL
          go_simp
          exact hK
        refine Reg.EachG.plain rfl (fun L u' T X hL hz hS hk K hK => ?_) ?_
        · skip
          have g19 : T[19]? = some (.pointer (some ⟨b, 0, none⟩)) := hk.val 1 19 (by kernel_rfl) (by kernel_rfl) rfl
          have hK := hK _ X hS (fun _ hx => Option.some.inj hx)
          clear hk hz hL
          go_simp
          exact hK
        refine Reg.EachG.plain rfl (fun L u' T X hL hz hS hk K hK => ?_) ?_
        · skip
          have g20 : T[20]? = some (.pointer (some ⟨b, 0, none⟩)) := hk.val 2 20 (by kernel_rfl) (by kernel_rfl) rfl
          have hK := hK _ X hS (fun _ hx => Option.some.inj hx)
          clear hk hz hL
          go_simp
          exact hK
        refine Reg.EachG.plain rfl (fun L u' T X hL hz hS hk K hK => ?_) ?_
        · skip
          have g21 : T[21]? = some (.pointer (some ⟨b, 1, none⟩)) := hk.val 3 21 (by kernel_rfl) (by kernel_rfl) rfl
          have hd : L 11 = false := hz 11 (by kernel_rfl)
          obtain ⟨⟨c0, c1⟩, _, hbz⟩ := cells2 (hS.pat hd)
          have hK := hK _ X hS (fun _ hx => Option.some.inj hx)
          clear hk hz hL hd
          go_simp
          exact hK
        refine Reg.EachG.plain rfl (fun L u' T X hL hz hS hk K hK => ?_) ?_
        · skip
          have g3 : T[3]? = some (.pointer (some ⟨w.heap.size, 0, none⟩)) := hk.old 3 (by kernel_rfl) rfl
          have hK := hK _ X hS (fun _ hx => Option.some.inj hx)
          clear hk hz hL
          go_simp
          exact hK
        refine Reg.EachG.plain rfl (fun L u' T X hL hz hS hk K hK => ?_) ?_
        · skip
          have g23 : T[23]? = some (.pointer (some ⟨w.heap.size, 1, none⟩)) := hk.val 5 23 (by kernel_rfl) (by kernel_rfl) rfl
          have hbx := hS.box
          rw [HCS.out] at hbx
          obtain ⟨c0, c1, c2, c3, c4⟩ := cells5 hbx
          have hK := hK _ X hS (fun _ hx => Option.some.inj hx)
          clear hk hz hL hbx
          go_simp
          exact hK
        refine Reg.EachG.plain rfl (fun L u' T X hL hz hS hk K hK => ?_) ?_
        · skip
          have g24 : T[24]? = some (.agg #[.int .u64 (sw p 0 : Nat), .int .u64 (sw p 1 : Nat), .int .u64 (sw p 2 : Nat), .int .u64 (sw p 3 : Nat)]) := hk.val 6 24 (by kernel_rfl) (by kernel_rfl) rfl
          have hd8 : L 8 = false := hz 8 (by kernel_rfl)
          have hd11 : L 11 = false := hz 11 (by kernel_rfl)
          have hBX : B ≤ X.heap.size := Nat.le_trans hBw (by have := hS.size; omega)
          clear hk hz
          go_simp
          refine (HBY X (HTX.out X hS.bel)).out.mono ?_
          rintro e w3 ⟨vb, rfl, hown, hb3⟩
          rw [HCB.out] at hown
          obtain ⟨_, ⟨rfl, h0⟩ | ⟨g, cap, cur, rfl, hgl, hgb, hn1, hcm, hcz, htk⟩⟩ := hown
          · exact absurd h0 (by simp)
          refine hK _ _ ⟨hS.bel.trans (hb3.mono hBX), Nat.le_trans hS.size hb3.size, blk_below hS.box hb3, own_drop hS.row hb3, fun _ => blk_below (hS.pat hd11) hb3, fun _ => own_drop (hS.plain hd8) hb3, fun _ _ => ⟨g, cap, rfl, ?_⟩, fun h => (by rw [Reg.upd_ne _ _ (by decide), hd8] at h; cases h), fun h => (by rw [Reg.upd_ne _ _ (by decide), hd11] at h; cases h)⟩ (fun _ hx => by cases hx)
          rw [Lib.cell_of_heap hgb]
          have h1 := congrArg (fun l => l[0]?) htk
          simp only [List.length_cons, List.length_nil, Nat.zero_add, Nat.mul_one, List.map_cons, List.map_nil] at h1
          rw [List.getElem?_take] at h1
          simpa using h1
        refine Reg.EachG.plain rfl (fun L u' T X hL hz hS hk K hK => ?_) ?_
        · skip
          have g22 : T[22]? = some (u) := hk.val 4 22 (by kernel_rfl) (by kernel_rfl) rfl
          obtain ⟨g25, l25⟩ := hk.any 7 25 (by kernel_rfl) (by kernel_rfl)
          have hd11 : L 11 = false := hz 11 (by kernel_rfl)
          obtain ⟨g, cap, e7, hg⟩ := hS.lit l25 hL
          rw [e7] at g25
          refine wp_append_own X (.tmp 22) (.tmp 25) 22 rfl B 5 i1 (.int .u8 0) 1 1 Tryd.underlying22 ki kz0 kz1 kz2 rfl (by decide) u (plainL ps).length ((plainL ps).map (Value.int .u8)) (by simp [Act.eval, g22]) (hS.plain hL) ⟨g, 0, none⟩ 1 cap [.int .u8 c] (by simp [Act.eval, g25]) rfl ?c1 ?c2 (by unfold maxLen; omega) (by omega) (Nat.le_trans hBw (by have := hS.size; omega)) ?_
          case c1 =>
            intro j y hj
            match j, hj with
            | 0, hj => simp at hj; subst hj; simpa [Addr.add] using hg
          case c2 => intro y hy; simp at hy; subst hy; rfl
          intro v' w' hown hgr _
          exact hK v' w' ⟨(hS.bel).grown hgr (Nat.le_trans hBw (by have := hS.size; omega)) (fun k hk => ((hS.plain hL).lt k hk).1), Nat.le_trans hS.size hgr.size, blk_grown hS.box hgr (own_neK (hS.plain hL) hS.box (by decide)), own_other hS.row (hS.plain hL) (by decide) hgr, fun _ => blk_grown (hS.pat hd11) hgr (own_neK (hS.plain hL) (hS.pat hd11) (by decide)), fun h => (by rw [Reg.upd_same] at h; cases h), fun _ h => (by rw [Reg.upd_same] at h; cases h), fun _ => (by rw [Reg.upd_same]; exact hown), fun h => (by rw [Reg.upd_ne _ _ (by decide), hd11] at h; cases h)⟩ (fun _ hx => by cases hx)
        refine Reg.EachG.plain rfl (fun L u' T X hL hz hS hk K hK => ?_) ?_
        · skip
          have g18 : T[18]? = some (.pointer (some ⟨b, 0, none⟩)) := hk.val 0 18 (by kernel_rfl) (by kernel_rfl) rfl
          have hK := hK _ X hS (fun _ hx => Option.some.inj hx)
          clear hk hz hL
          go_simp
          exact hK
        refine Reg.EachG.plain rfl (fun L u' T X hL hz hS hk K hK => ?_) ?_
        · skip
          have g27 : T[27]? = some (.pointer (some ⟨b, 0, none⟩)) := hk.val 9 27 (by kernel_rfl) (by kernel_rfl) rfl
          have hK := hK _ X hS (fun _ hx => Option.some.inj hx)
          clear hk hz hL
          go_simp
          exact hK
        refine Reg.EachG.plain rfl (fun L u' T X hL hz hS hk K hK => ?_) ?_
        · skip
          obtain ⟨g26, l26⟩ := hk.any 8 26 (by kernel_rfl) (by kernel_rfl)
          have g28 : T[28]? = some (.pointer (some ⟨b, 1, none⟩)) := hk.val 10 28 (by kernel_rfl) (by kernel_rfl) rfl
          obtain ⟨⟨c0, c1⟩, ⟨f0, f1⟩, hbz⟩ := cells2 (hS.pat hL)
          have hnew := hS.new l26
          have hK := hK undef (X.setCell ⟨b, 1, none⟩ (u' 8)) ⟨(hS.bel).setCell (p := ⟨b, 1, none⟩) hB _, by have := hS.size; simpa using this, (Below.heap_setCell _ _ _ _ (by simp; omega)).trans hS.box, own_set hS.row (hS.pat hL) (by decide) _ _, fun h => (by rw [Reg.upd_same] at h; cases h), fun h => (by rw [Reg.upd_ne _ _ (by decide), l26] at h; cases h), fun _ h => (by rw [Reg.upd_ne _ _ (by decide), l26] at h; cases h), fun _ => (by rw [Reg.upd_ne _ _ (by decide)]; exact own_set hnew (hS.pat hL) (by decide) _ _), fun _ => (by rw [Reg.upd_ne _ _ (by decide)]; exact blk_set1 (hS.pat hL))⟩ (fun _ hx => by cases hx)
          obtain ⟨a7, cap7, e7⟩ := own_shapeK hnew
          rw [e7] at hK g26
          clear hk hz hL hS hnew
          go_simp
          exact hK
        exact Reg.EachG.nil
      case rsZ =>
        intro L u' w3 hL hS hI
        have e0 : u' 0 = .pointer (some ⟨b, 0, none⟩) := hI 0 (by decide) _ rfl
        have e1 : u' 1 = .pointer (some ⟨b, 0, none⟩) := hI 1 (by decide) _ rfl
        have e2 : u' 2 = .pointer (some ⟨b, 0, none⟩) := hI 2 (by decide) _ rfl
        have e3 : u' 3 = .pointer (some ⟨b, 1, none⟩) := hI 3 (by decide) _ rfl
        have e4 : u' 4 = u := hI 4 (by decide) _ rfl
        have e5 : u' 5 = .pointer (some ⟨w.heap.size, 1, none⟩) := hI 5 (by decide) _ rfl
        have e6 : u' 6 = .agg #[.int .u64 (sw p 0 : Nat), .int .u64 (sw p 1 : Nat), .int .u64 (sw p 2 : Nat), .int .u64 (sw p 3 : Nat)] := hI 6 (by decide) _ rfl
        have e9 : u' 9 = .pointer (some ⟨b, 0, none⟩) := hI 9 (by decide) _ rfl
        have e10 : u' 10 = .pointer (some ⟨b, 1, none⟩) := hI 10 (by decide) _ rfl
        clear hI
        simp only [Reg.putAll, Act.put, List.setIfInBounds_toArray, List.set_cons_succ, List.set_cons_zero, Nat.zero_add, Nat.reduceAdd, e0, e1, e2, e3, e4, e5, e6, e9, e10]
        clear e0 e1 e2 e3 e4 e5 e6 e9 e10
        have d8 := hL 8 (by decide)
        have d11 := hL 11 (by decide)
        have hnew := hS.new d8
        have hpat := hS.pat' d11
        have hbel := HB2.out.trans hS.bel
        have hrw := hS.row
        generalize u' 7 = x7 at *
        generalize u' 8 = x8 at *
        have HE : Hid (PatAt B b (ps ++ [x]) w3 ∧ Below B w w3) := by
          refine Lib.hid ⟨⟨hB, y7, x8, hpat, ?_, ?_⟩, hbel⟩
          · rw [List.length_append, HX.out]; exact hrw
          · rw [HP.out, H1.out, if_pos trivial, HCB.out, List.length_append, List.map_append]; exact hnew
        clear hS hnew hpat hbel hrw d8 d11 hL u' L
        go_wp2
        go_end0
        exact ⟨rfl, HE.out.1, HE.out.2⟩
    · have h0 : ((N : Int) == 1) = false := by simp; omega
      have hN' : ¬ (N : Int) = 1 := by omega
      go_wp2
      go_end0
      refine ⟨rfl, ⟨hB, y7, u, HPAT2.out, ?_, ?_⟩, HB2.out⟩
      · rw [List.length_append, HX.out]; exact HNEW2.out
      · rw [HP.out, H1.out, if_neg hN, List.append_nil]; exact HPL2.out
end Go.Proofs.YtoodpajbefffhaaDoor
