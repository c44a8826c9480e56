import Derived.Test.YtnecadgoiolpgaaGreatDoorKSc
import Derived.Test.YtnecadgoiolpgaaGreatDoorKWe
import Derived.Test.YtnecadgoiolpgaaGreatDoorKSd
namespace Go.Proofs.YtnecadgoiolpgaaGreatDoor
open Go.RowKit
theorem ask_found {l : List Int} {G : List St × Nat} (hc : ClG G.1) (hz : ∀ x, G.1[x]? = some .acc ↔ x = 0) (hst : G.2 < G.1.length) (a wm : Nat) : FoundT l G a wm (askF G l (a : Int) wm).1 := by
 have e : askF G l (a : Int) wm = passF G l a wm := by unfold askF; rw [if_neg (by omega)]; rfl
 rw [e]
 exact passF_found hc hz hst a wm
theorem found_le {l : List Int} {G : List St × Nat} {a w : Nat} {q : Nat × Nat} (f : FoundT l G a w (some q)) : a ≤ q.1 ∧ q.1 ≤ q.2 ∧ q.2 ≤ l.length := ⟨f.1.1, f.2.1, f.2.2.1⟩
theorem hitV_some (s e v : Nat) : hitV (some (s, e), v) = .agg #[.bool true, .int .i64 (s : Nat), .int .i64 (e : Nat), .int .i64 (v : Nat)] := rfl
def Fo.nA : Fo → Prop
 | .nil => True
 | .cons kd _ _ _ _ kids rest => kd ≠ 2 ∧ kd ≠ 3 ∧ kids.nA ∧ rest.nA
def Nd.nA (n : Nd) : Prop := n.kd ≠ 2 ∧ n.kd ≠ 3 ∧ n.kids.nA
def nAL (l : List Nd) : Prop := ∀ x ∈ l, x.nA
theorem fo_nA : ∀ l : List Nd, nAL l → (fo l).nA
 | [], _ => trivial
 | n :: r, h => ⟨(h n (by simp)).1, (h n (by simp)).2.1, (h n (by simp)).2.2, fo_nA r fun x hx => h x (List.mem_cons_of_mem _ hx)⟩
theorem nA_snoc {l : List Nd} {x : Nd} (h : nAL l) (hx : x.nA) : nAL (l ++ [x]) := fun y hy => by
 rcases List.mem_append.1 hy with h1 | h1
 ·exact h y h1
 ·rw [List.mem_singleton.1 h1]; exact hx
theorem nA_one {x : Nd} (h : x.nA) : nAL [x] := fun y hy => by rw [List.mem_singleton.1 hy]; exact h
theorem nA_join {kd : Int} {l : List Nd} (h : nAL l) (h2 : kd ≠ 2) (h3 : kd ≠ 3) : (joinN kd l).nA := by
 unfold joinN
 split
 ·exact h _ (by simp)
 ·exact ⟨h2, h3, fo_nA _ h⟩
theorem nA_rep {l : List Nd} {m n : Int} (h : nAL l) : nAL (repL l m n) := by
 unfold repL
 cases hx : l.getLast? with
 | none => exact h
 | some x => exact nA_snoc (fun y hy => h y (List.dropLast_subset _ hy)) ⟨(by decide : (6 : Int) ≠ 2), (by decide : (6 : Int) ≠ 3), fo_nA _ (nA_one (h x (List.mem_of_getLast? hx)))⟩
def NoA (l : List Int) : Prop := ∀ k, l.getD k 0 ≠ 94 ∧ l.getD k 0 ≠ 36
theorem roleC_nA {l : List Int} (h : NoA l) (ext : Bool) (k : Nat) : roleC (sgT l k) ext ≠ 94 ∧ roleC (sgT l k) ext ≠ 36 := by
 have h0 := h k
 unfold sgT
 by_cases h1 : k < l.length
 ·rw [if_pos h1]
  by_cases h2 : l.getD k 0 = 92 ∧ k + 1 < l.length
  ·rw [if_pos h2]
   generalize l.getD (k + 1) 0 = c
   unfold roleC
   rw [if_neg (by simp)]
   by_cases h3 : [92, c] = [(92 : Int), 40] ∨ [92, c] = [(92 : Int), 41] ∨ [92, c] = [(92 : Int), 123]
   ·rw [if_pos h3]
    cases ext with
    | true => simp
    | false =>
     simp at h3 ⊢
     omega
   ·rw [if_neg h3, if_neg (by simp), if_neg (by simp)]
    decide
  ·rw [if_neg h2]
   generalize l.getD k 0 = c at *
   unfold roleC
   rw [if_neg (by simp), if_neg (by simp)]
   by_cases h3 : [c] = [(40 : Int)] ∨ [c] = [41] ∨ [c] = [123] ∨ [c] = [43] ∨ [c] = [63] ∨ [c] = [124]
   ·rw [if_pos h3]
    cases ext with
    | true =>
     simp at h3 ⊢
     omega
    | false => simp
   ·rw [if_neg h3]
    split
    ·simp
     omega
    ·decide
 ·rw [if_neg h1]
  unfold roleC
  rw [if_pos rfl]
  decide
theorem sg_nA (cf : ByteArray → (Nat → Bool) × Bool) {l : List Int} (hn : NoA l) (ext : Bool) (k : Nat) : (sg cf l ext k).nd.nA := by
 obtain ⟨r1, r2⟩ := roleC_nA hn ext k
 apply sg_cases (fun s => s.nd.nA)
 case h94 => exact fun h => absurd h r1
 case h36 => exact fun h => absurd h r2
 all_goals
  intros
  first
   | exact ⟨(by decide : (1 : Int) ≠ 2), (by decide : (1 : Int) ≠ 3), trivial⟩
   | exact ⟨(by decide : (0 : Int) ≠ 2), (by decide : (0 : Int) ≠ 3), trivial⟩
theorem rdR_nA (cf : ByteArray → (Nat → Bool) × Bool) {l : List Int} (hn : NoA l) (ext : Bool) (n : Nat) (md : RM) (k g o : Nat) (t : Nd) (k1 g1 : Nat) (h : rdR cf l ext n md k g o = some (.ok t k1 g1)) (hm : nAL md.list) : t.nA := by
 have key := rdR_ind cf l ext (fun md _ _ _ r => nAL md.list → ∀ t k1 g1, r = .ok t k1 g1 → t.nA) ?_ ?_ ?_ ?_ ?_ ?_ ?_ ?_ ?_ ?_ ?_ ?_ ?_ ?_ ?_ n md k g o _ h
 ·exact key hm t k1 g1 rfl
 ·intro bs k g o c p _ _ t k1 g1 e; cases e
 ·intro bs k g o b k1 g1 r h1 _ h2 hm t k2 g2 e
  have a := h1 (fun x hx => by cases hx) _ _ _ rfl
  exact h2 (nA_snoc hm a) _ _ _ e
 ·intro bs k g o b k1 g1 h1 _ hm t k2 g2 e
  have a := h1 (fun x hx => by cases hx) _ _ _ rfl
  cases e
  exact nA_join (nA_snoc hm a) (by decide) (by decide)
 ·intro k g o _ _ t k1 g1 e; cases e
 ·intro items k g o _ hne hm t k1 g1 e
  cases e
  exact nA_join hm (by decide) (by decide)
 ·intro items k g o r _ _ h2 hm t k1 g1 e
  exact h2 (nA_snoc hm ⟨(by decide : (1 : Int) ≠ 2), (by decide : (1 : Int) ≠ 3), trivial⟩) _ _ _ e
 ·intro items k g o _ _ _ t k1 g1 e; cases e
 ·intro items k g o c p _ _ _ _ t k1 g1 e; cases e
 ·intro items k g o r hk1 _ her h2 hm t k1 g1 e
  exact h2 (nA_rep hm) _ _ _ e
 ·intro items k g o _ _ _ t k1 g1 e; cases e
 ·intro items k g o c p _ _ _ _ t k1 g1 e; cases e
 ·intro items k g o t k1 g1 _ _ _ _ _ t' k2 g2 e; cases e
 ·intro items k g o t k1 g1 r _ h9 h1 _ h2 hm t' k2 g2 e
  have a := h1 (fun x hx => by cases hx) _ _ _ rfl
  exact h2 (nA_snoc hm ⟨(by decide : (7 : Int) ≠ 2), (by decide : (7 : Int) ≠ 3), fo_nA _ (nA_one a)⟩) _ _ _ e
 ·intro items k g o c p _ _ _ _ _ t k1 g1 e; cases e
 ·intro items k g o r _ _ _ _ _ h2 hm t k1 g1 e
  exact h2 (nA_snoc hm (sg_nA cf hn ext k)) _ _ _ e
theorem parseN_nA {cf : ByteArray → (Nat → Bool) × Bool} {l : List Int} (hn : NoA l) {ext : Bool} {n : Nat} {t : Nd} {k g : Nat} (h : parseN cf l ext n = some (.ok t k g)) : t.nA := by
 obtain ⟨h1, h2, h3, _⟩ := parseN_ok h
 exact rdR_nA cf hn ext _ _ _ _ _ _ _ _ h2 (fun x hx => by cases hx)
theorem iterR_map {c c' : Nat → Nat → Prop} {d : Nat} (h : ∀ i j, c i j → c' (i + d) (j + d)) : ∀ k i j, iterR c k i j → iterR c' k (i + d) (j + d)
 | 0, i, j, e => by have e' : i = j := e; rw [e']; rfl
 | k + 1, i, j, ⟨m, h1, h2⟩ => ⟨m + d, h i m h1, iterR_map h k m j h2⟩
theorem iterR_back {c c' : Nat → Nat → Prop} {d : Nat} (h : ∀ i j, c' (i + d) j → ∃ j', j = j' + d ∧ c i j') : ∀ k i j, iterR c' k (i + d) j → ∃ j', j = j' + d ∧ iterR c k i j'
 | 0, i, j, e => ⟨i, Eq.symm e, rfl⟩
 | k + 1, i, j, ⟨m, h1, h2⟩ => by
  obtain ⟨m', e, h3⟩ := h i m h1
  subst e
  obtain ⟨j', e, h4⟩ := iterR_back h k m' j h2
  exact ⟨j', e, m', h3, h4⟩
theorem at_app (a l b : List Int) {i : Nat} (h : i < l.length) : (a ++ l ++ b).getD (i + a.length) 0 = l.getD i 0 := by
 rw [List.getD_eq_getElem?_getD, List.getD_eq_getElem?_getD, List.append_assoc, List.getElem?_append_right (by omega), Nat.add_sub_cancel, List.getElem?_append_left h]
theorem ndM_app (a l b : List Int) {kd mn mx : Int} {p : Nat → Bool} {c c' o o' : Nat → Nat → Prop} (h2 : kd ≠ 2) (h3 : kd ≠ 3) (hc : ∀ i j, c i j → c' (i + a.length) (j + a.length)) (ho : ∀ i j, o i j → o' (i + a.length) (j + a.length)) {i j : Nat} (h : ndM l kd p mn mx c o i j) : ndM (a ++ l ++ b) kd p mn mx c' o' (i + a.length) (j + a.length) := by
 unfold ndM at h ⊢
 by_cases k1 : kd = 1
 ·rw [if_pos k1] at h ⊢
  obtain ⟨e1, e2, e3⟩ := h
  exact ⟨by omega, by simp; omega, by rw [at_app a l b e2]; exact e3⟩
 rw [if_neg k1, if_neg h2, if_neg h3] at h ⊢
 by_cases k5 : kd = 5
 ·rw [if_pos k5] at h ⊢
  exact ho i j h
 rw [if_neg k5] at h ⊢
 by_cases k6 : kd = 6
 ·rw [if_pos k6] at h ⊢
  obtain ⟨k, q1, q2, q3⟩ := h
  exact ⟨k, q1, q2, iterR_map hc k i j q3⟩
 rw [if_neg k6] at h ⊢
 exact hc i j h
theorem Fo.M_app (a l b : List Int) : ∀ (f : Fo), f.nA → ∀ (c : Bool) (i j : Nat), f.M l c i j → f.M (a ++ l ++ b) c (i + a.length) (j + a.length)
 | .nil, _, c, i, j, h => by
  cases c with
  | true => have e : i = j := h; rw [e]; rfl
  | false => exact h.elim
 | .cons kd p mn mx gp kids rest, ⟨n2, n3, nk, nr⟩, c, i, j, h => by
  have hc := fun i j => Fo.M_app a l b kids nk true i j
  have ho := fun i j => Fo.M_app a l b kids nk false i j
  cases c with
  | true =>
   obtain ⟨k, q1, q2⟩ := h
   exact ⟨k + a.length, ndM_app a l b n2 n3 hc ho q1, Fo.M_app a l b rest nr true k j q2⟩
  | false =>
   rcases h with h | h
   ·exact Or.inl (ndM_app a l b n2 n3 hc ho h)
   ·exact Or.inr (Fo.M_app a l b rest nr false i j h)
theorem Nd.M_app (a l b : List Int) {n : Nd} (h : n.nA) {i j : Nat} (hm : n.M l i j) : n.M (a ++ l ++ b) (i + a.length) (j + a.length) :=
 ndM_app a l b h.1 h.2.1 (fun i j => Fo.M_app a l b n.kids h.2.2 true i j) (fun i j => Fo.M_app a l b n.kids h.2.2 false i j) hm
theorem ndM_back (a l : List Int) {kd mn mx : Int} {p : Nat → Bool} {c c' o o' : Nat → Nat → Prop} (h2 : kd ≠ 2) (h3 : kd ≠ 3) (hc : ∀ i j, c' (i + a.length) j → ∃ j', j = j' + a.length ∧ c i j') (ho : ∀ i j, o' (i + a.length) j → ∃ j', j = j' + a.length ∧ o i j') {i j : Nat} (h : ndM (a ++ l) kd p mn mx c' o' (i + a.length) j) : ∃ j', j = j' + a.length ∧ ndM l kd p mn mx c o i j' := by
 unfold ndM at h ⊢
 by_cases k1 : kd = 1
 ·rw [if_pos k1] at h
  obtain ⟨e1, e2, e3⟩ := h
  have hl : i < l.length := by rw [List.length_append] at e2; omega
  refine ⟨i + 1, by omega, ?_⟩
  rw [if_pos k1]
  have e4 := at_app a l [] hl
  rw [List.append_nil] at e4
  rw [e4] at e3
  exact ⟨rfl, hl, e3⟩
 rw [if_neg k1, if_neg h2, if_neg h3] at h
 simp only [if_neg k1, if_neg h2, if_neg h3]
 by_cases k5 : kd = 5
 ·rw [if_pos k5] at h
  simp only [if_pos k5]
  exact ho i j h
 rw [if_neg k5] at h
 simp only [if_neg k5]
 by_cases k6 : kd = 6
 ·rw [if_pos k6] at h
  simp only [if_pos k6]
  obtain ⟨k, q1, q2, q3⟩ := h
  obtain ⟨j', e, q4⟩ := iterR_back hc k i j q3
  exact ⟨j', e, k, q1, q2, q4⟩
 rw [if_neg k6] at h
 simp only [if_neg k6]
 exact hc i j h
theorem Fo.M_back (a l : List Int) : ∀ (f : Fo), f.nA → ∀ (c : Bool) (i j : Nat), f.M (a ++ l) c (i + a.length) j → ∃ j', j = j' + a.length ∧ f.M l c i j'
 | .nil, _, c, i, j, h => by
  cases c with
  | true => exact ⟨i, Eq.symm h, rfl⟩
  | false => exact h.elim
 | .cons kd p mn mx gp kids rest, ⟨n2, n3, nk, nr⟩, c, i, j, h => by
  have hc := fun i j => Fo.M_back a l kids nk true i j
  have ho := fun i j => Fo.M_back a l kids nk false i j
  cases c with
  | true =>
   obtain ⟨k, q1, q2⟩ := h
   obtain ⟨k', e, q3⟩ := ndM_back a l n2 n3 hc ho q1
   subst e
   obtain ⟨j', e, q4⟩ := Fo.M_back a l rest nr true k' j q2
   exact ⟨j', e, k', q3, q4⟩
  | false =>
   rcases h with h | h
   ·obtain ⟨j', e, q⟩ := ndM_back a l n2 n3 hc ho h
    exact ⟨j', e, Or.inl q⟩
   ·obtain ⟨j', e, q⟩ := Fo.M_back a l rest nr false i j h
    exact ⟨j', e, Or.inr q⟩
theorem Nd.M_back (a l : List Int) {n : Nd} (h : n.nA) {i j : Nat} (hm : n.M (a ++ l) (i + a.length) j) : ∃ j', j = j' + a.length ∧ n.M l i j' :=
 ndM_back a l h.1 h.2.1 (fun i j => Fo.M_back a l n.kids h.2.2 true i j) (fun i j => Fo.M_back a l n.kids h.2.2 false i j) hm
theorem longer_end {n : Nd} (hok : n.Ok) (ha : n.nA) (s m : List Int) {q : Nat × Nat} {h' : Option (Nat × Nat)} (f : FoundT s n.G 0 0 (some q)) (f' : FoundT (s ++ m) n.G 0 0 h') : q.1 = 0 ∧ ∃ e', h' = some (0, e') ∧ q.2 ≤ e' := by
 obtain ⟨⟨_, c1⟩, _, h2, h3, _⟩ := f
 have q0 : q.1 = 0 := c1 rfl
 rw [q0, matJ_iff s n hok] at h3
 have h4 := Nd.M_app [] s m ha h3
 simp only [List.nil_append, List.length_nil, Nat.add_zero] at h4
 rw [← matJ_iff (s ++ m) n hok] at h4
 refine ⟨q0, ?_⟩
 cases h' with
 | none => exact absurd h4 (f' 0 ⟨Nat.le_refl _, fun _ => rfl⟩ (Nat.zero_le _) q.2)
 | some q' =>
  obtain ⟨⟨_, d1⟩, _, _, _, d5⟩ := f'
  have q0' : q'.1 = 0 := d1 rfl
  obtain ⟨_, d6⟩ := d5 (by decide)
  refine ⟨q'.2, ?_, ?_⟩
  ·rw [← q0']
  ·by_cases hle : q.2 ≤ q'.2
   ·exact hle
   ·have := d6 q.2 (by omega)
    rw [q0'] at this
    exact absurd h4 this
theorem longer_ahead {n : Nd} (hok : n.Ok) (ha : n.nA) (m s : List Int) {h h' : Option (Nat × Nat)} (f : FoundT s n.G 0 0 h) (f' : FoundT (m ++ s) n.G m.length 0 h') : h' = h.map fun q => (m.length, m.length + q.2) := by
 have fw : ∀ j, n.M s 0 j → n.M (m ++ s) m.length (m.length + j) := fun j hj => by
  have h4 := Nd.M_app m s [] ha hj
  rw [List.append_nil, Nat.zero_add, Nat.add_comm j] at h4
  exact h4
 have bw : ∀ j, n.M (m ++ s) m.length j → ∃ j', j = m.length + j' ∧ n.M s 0 j' := fun j hj => by
  obtain ⟨j', e, h4⟩ := Nd.M_back m s ha (i := 0) (by rw [Nat.zero_add]; exact hj)
  exact ⟨j', by omega, h4⟩
 cases h with
 | none =>
  cases h' with
  | none => rfl
  | some q' =>
   obtain ⟨⟨_, d1⟩, _, _, d4, _⟩ := f'
   rw [d1 rfl, matJ_iff _ n hok] at d4
   obtain ⟨j', _, h5⟩ := bw _ d4
   rw [← matJ_iff s n hok] at h5
   exact absurd h5 (f 0 ⟨Nat.le_refl _, fun _ => rfl⟩ (Nat.zero_le _) j')
 | some q =>
  obtain ⟨⟨_, c1⟩, _, c3, c4, c5⟩ := f
  have q0 : q.1 = 0 := c1 rfl
  obtain ⟨_, c6⟩ := c5 (by decide)
  rw [q0, matJ_iff s n hok] at c4
  have h4 := fw _ c4
  cases h' with
  | none =>
   rw [← matJ_iff _ n hok] at h4
   exact absurd h4 (f' m.length ⟨Nat.le_refl _, fun _ => rfl⟩ (by simp) _)
  | some q' =>
   obtain ⟨⟨_, d1⟩, _, _, d4, d5⟩ := f'
   have q0' : q'.1 = m.length := d1 rfl
   obtain ⟨_, d6⟩ := d5 (by decide)
   have d7 := d4
   rw [q0', matJ_iff _ n hok] at d7
   obtain ⟨j', e, h5⟩ := bw _ d7
   have h6 : j' ≤ q.2 := by
    by_cases hle : j' ≤ q.2
    ·exact hle
    ·have := c6 j' (by omega)
     rw [q0] at this
     rw [← matJ_iff s n hok] at h5
     exact absurd h5 this
   have h7 : m.length + q.2 ≤ q'.2 := by
    by_cases hle : m.length + q.2 ≤ q'.2
    ·exact hle
    ·have := d6 (m.length + q.2) (by omega)
     rw [q0', matJ_iff _ n hok] at this
     exact absurd h4 this
   have e2 : q'.2 = m.length + q.2 := by omega
   rw [Option.map_some]
   congr 1
   exact Prod.ext q0' e2
theorem sblq_nA {cf : ByteArray → (Nat → Bool) × Bool} {l : List Int} {ext : Bool} {n : Nat} {r : RR} {w w' : World} {x : Ending} (hl : Byt l) (hr : parseN cf l ext n = some r) (h : SBlQ r w x w') : Below w.heap.size w w' ∧ (x = .returned (.pointer none) ∨ ∃ (gb : Nat) (t : Nd), x = .returned (.pointer (some ⟨gb, 0, none⟩)) ∧ AutA gb t.G.2 t.G.1 w' ∧ t.Ok ∧ (NoA l → t.nA)) := by
 obtain ⟨h1, h2⟩ := h
 refine ⟨h1, ?_⟩
 cases r with
 | bad c p => exact Or.inl h2
 | ok t k g =>
  dsimp only at h2
  split at h2
  ·obtain ⟨gb, h3, h4⟩ := h2
   exact Or.inr ⟨gb, t, h3, h4, (parseN_okN hl hr).1, fun hn => parseN_nA hn hr⟩
  ·exact Or.inl h2
theorem longer_asks {gb : Nat} {t : Nd} {w : World} (hA : AutA gb t.G.2 t.G.1 w) (hok : t.Ok) (ha : t.nA) (s m : List Int) :
  ((askF t.G s 0 0).1 = none ∧ (askF t.G (m ++ s) (m.length : Nat) 0).1 = none) ∨ ∃ e e', (askF t.G s 0 0).1 = some (0, e) ∧ (askF t.G (s ++ m) 0 0).1 = some (0, e') ∧ e ≤ e' ∧ e ≤ s.length ∧ (askF t.G (m ++ s) (m.length : Nat) 0).1 = some (m.length, m.length + e) := by
 have f1 := ask_found (l := s) (G := t.G) hA.cl hA.ze hA.lt 0 0
 have f2 := ask_found (l := s ++ m) (G := t.G) hA.cl hA.ze hA.lt 0 0
 have f3 := ask_found (l := m ++ s) (G := t.G) hA.cl hA.ze hA.lt m.length 0
 have h3 := longer_ahead hok ha m s f1 f3
 rw [h3]
 simp only [Int.natCast_zero] at f1 f2 ⊢
 cases hx : (askF t.G s 0 0).1 with
 | none => exact Or.inl ⟨rfl, rfl⟩
 | some q =>
  rw [hx] at f1
  obtain ⟨q0, e', h4, h5⟩ := longer_end hok ha s m f1 f2
  exact Or.inr ⟨q.2, e', by rw [← q0], h4, h5, (found_le f1).2.2, rfl⟩
end Go.Proofs.YtnecadgoiolpgaaGreatDoor
