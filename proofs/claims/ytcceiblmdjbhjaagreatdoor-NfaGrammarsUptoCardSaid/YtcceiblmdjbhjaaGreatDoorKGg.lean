/- KGg: several texts in one (kmerge.py). -/
import Derived.Test.YtcceiblmdjbhjaaGreatDoorKTb
import Derived.Test.YtcceiblmdjbhjaaGreatDoorKNw
import Derived.Test.YtcceiblmdjbhjaaGreatDoorNfAw
/- The trees that reading tells fit, and are small (pure). -/
namespace Go.Proofs.YtcceiblmdjbhjaaGreatDoor
open Go.RowKit

def fitL (l : List Nd) : Prop := ∀ x ∈ l, x.Fit
theorem fo_fit : ∀ l : List Nd, fitL l → (fo l).Fit
  | [], _ => trivial
  | n :: r, h => ⟨(h n (by simp)).1, (h n (by simp)).2, fo_fit r fun x hx => h x (List.mem_cons_of_mem _ hx)⟩
theorem fit_zero {kd : Int} {p : Nat → Bool} {mn mx gp : Int} {kids : Fo} (h1 : -9223372036854775808 ≤ mn ∧ mn ≤ 9223372036854775807) (h2 : -9223372036854775808 ≤ mx ∧ mx ≤ 9223372036854775807) (h3 : -9223372036854775808 ≤ gp ∧ gp ≤ 9223372036854775807) (hk : kids.Fit) : (Nd.mk kd p mn mx gp kids).Fit := ⟨⟨h1, h2, h3⟩, hk⟩
theorem fit_join {kd : Int} {l : List Nd} (h : fitL l) : (joinN kd l).Fit := by
  unfold joinN
  split
  · exact h _ (by simp)
  · exact fit_zero (by omega) (by omega) (by omega) (fo_fit _ h)
theorem fit_snoc {l : List Nd} {x : Nd} (h : fitL l) (hx : x.Fit) : fitL (l ++ [x]) := fun y hy => by
  rcases List.mem_append.1 hy with h1 | h1
  · exact h y h1
  · rw [List.mem_singleton.1 h1]; exact hx
theorem fit_one {x : Nd} (h : x.Fit) : fitL [x] := fun y hy => by rw [List.mem_singleton.1 hy]; exact h
theorem fit_repN {x : Nd} {m n : Int} (h : x.Fit) (h1 : -1 ≤ m ∧ m ≤ 255) (h2 : -1 ≤ n ∧ n ≤ 255) : (repN m n x).Fit := fit_zero (by omega) (by omega) (by omega) (fo_fit _ (fit_one h))
theorem fit_rep {l : List Nd} {m n : Int} (h : fitL l) (h1 : -1 ≤ m ∧ m ≤ 255) (h2 : -1 ≤ n ∧ n ≤ 255) : fitL (repL l m n) := by
  unfold repL
  cases hx : l.getLast? with
  | none => exact h
  | some x => exact fit_snoc (fun y hy => h y (List.dropLast_subset _ hy)) (fit_repN (h x (List.mem_of_getLast? hx)) h1 h2)
theorem nD_first {l : List Int} (hl : Byt l) {k : Nat} (h : 0 < nD l k) : l.getD k 0 ≠ 45 := by
  unfold nD passN at h
  have h1 := (stopN_is (passB (ofBys l) dgtB true k) ((ofBys l).size - k)).2.1 0 h
  unfold passB at h1
  rw [Nat.add_zero, beq_iff_eq] at h1
  have e : bys dgtB = [48, 49, 50, 51, 52, 53, 54, 55, 56, 57] := by decide
  rw [e] at h1
  unfold inB at h1
  have h2 : atB (ofBys l) k ∈ ([48, 49, 50, 51, 52, 53, 54, 55, 56, 57] : List Int) := by simpa using h1
  unfold atB at h2
  rw [bys_ofBys hl] at h2
  intro h45
  rw [h45] at h2
  simp at h2
theorem numV_fits {l : List Int} (hl : Byt l) {k : Nat} (h : numOk l k = true) : 0 ≤ numV l k ∧ numV l k ≤ 255 := by
  unfold numOk at h
  simp only [Bool.and_eq_true, decide_eq_true_eq] at h
  refine ⟨?_, h.2⟩
  unfold numV wV
  rw [if_pos h.1.1]
  split
  · rename_i h45
    exfalso
    by_cases hn : 0 < nD l k
    · refine nD_first hl hn ?_
      unfold dgs at h45
      rw [List.getD_eq_getElem?_getD, List.getElem?_take, if_pos hn, List.getElem?_drop, Nat.add_zero, ← List.getD_eq_getElem?_getD] at h45
      exact h45
    · unfold dgs at h45
      rw [show nD l k = 0 by omega] at h45
      simp at h45
  · exact valK_nonneg 10 (by decide) _ _ (Nat.le_refl _)
theorem itv_fits {l : List Int} (hl : Byt l) {ext : Bool} {k : Nat} {m n : Int} {k2 : Nat} (h : itv l ext k = some (m, n, k2)) : (-1 ≤ m ∧ m ≤ 255) ∧ (-1 ≤ n ∧ n ≤ 255) := by
  unfold itv at h
  split at h
  · cases h
  rename_i h0
  have a := numV_fits hl (k := k) (by simpa using h0)
  split at h
  · simp only [Option.some.injEq, Prod.mk.injEq] at h; omega
  split at h
  · cases h
  split at h
  · simp only [Option.some.injEq, Prod.mk.injEq] at h; omega
  split at h
  · rename_i h3
    simp only [Bool.and_eq_true] at h3
    have b := numV_fits hl (k := k + nD l k + 1) h3.1.1
    simp only [Option.some.injEq, Prod.mk.injEq] at h; omega
  · cases h
theorem sg_num (cf : ByteArray → (Nat → Bool) × Bool) {l : List Int} (hl : Byt l) (ext : Bool) (k : Nat) : (sg cf l ext k).kd = 1 → (sg cf l ext k).er = none → (-1 ≤ (sg cf l ext k).lo ∧ (sg cf l ext k).lo ≤ 255) ∧ (-1 ≤ (sg cf l ext k).hi ∧ (sg cf l ext k).hi ≤ 255) := by
  apply sg_cases (fun s => s.kd = 1 → s.er = none → (-1 ≤ s.lo ∧ s.lo ≤ 255) ∧ (-1 ≤ s.hi ∧ s.hi ≤ 255))
  case h123 => exact fun m n k2 _ hi _ _ => itv_fits hl hi
  all_goals
    intros
    dsimp only
    omega
theorem sg_nd_fit (cf : ByteArray → (Nat → Bool) × Bool) (l : List Int) (ext : Bool) (k : Nat) : (sg cf l ext k).nd.Fit := by
  apply sg_cases (fun s => s.nd.Fit) <;> intros <;> exact fit_zero (by decide) (by decide) (by decide) trivial
/-- What was read fits. -/
theorem rdR_fit (cf : ByteArray → (Nat → Bool) × Bool) {l : List Int} (hl : Byt l) (ext : Bool) (n : Nat) (md : RM) (k g o : Nat) (t : Nd) (k1 g1 : Nat) (h : rdR cf l ext n md k g o = some (.ok t k1 g1)) (hm : fitL md.list) (hg : g ≤ 9) : t.Fit ∧ g1 ≤ 9 := by
  have key := rdR_ind cf l ext (fun md _ g _ r => fitL md.list → g ≤ 9 → ∀ t k1 g1, r = .ok t k1 g1 → t.Fit ∧ g1 ≤ 9) ?_ ?_ ?_ ?_ ?_ ?_ ?_ ?_ ?_ ?_ ?_ ?_ ?_ ?_ ?_ n md k g o _ h
  · exact key hm hg t k1 g1 rfl
  · intro bs k g o c p _ _ _ t k1 g1 e; cases e
  · intro bs k g o b k1 g1 r h1 _ h2 hm hg t k2 g2 e
    have a := h1 (fun x hx => by cases hx) hg _ _ _ rfl
    exact h2 (fit_snoc hm a.1) a.2 _ _ _ e
  · intro bs k g o b k1 g1 h1 _ hm hg t k2 g2 e
    have a := h1 (fun x hx => by cases hx) hg _ _ _ rfl
    cases e
    exact ⟨fit_join (fit_snoc hm a.1), a.2⟩
  · intro k g o _ _ _ t k1 g1 e; cases e
  · intro items k g o _ _ hm hg t k1 g1 e
    cases e
    exact ⟨fit_join hm, hg⟩
  · intro items k g o r _ _ h2 hm hg t k1 g1 e
    exact h2 (fit_snoc hm (fit_zero (by decide) (by decide) (by decide) trivial)) hg _ _ _ e
  · intro items k g o _ _ _ _ t k1 g1 e; cases e
  · intro items k g o c p _ _ _ _ _ t k1 g1 e; cases e
  · intro items k g o r hk1 _ her h2 hm hg t k1 g1 e
    have a := sg_num cf hl ext k hk1 her
    exact h2 (fit_rep hm a.1 a.2) hg _ _ _ e
  · intro items k g o _ _ _ _ t k1 g1 e; cases e
  · intro items k g o c p _ _ _ _ _ t k1 g1 e; cases e
  · intro items k g o t k1 g1 _ _ _ _ _ _ t' k2 g2 e; cases e
  · intro items k g o t k1 g1 r _ h9 h1 _ h2 hm hg t' k2 g2 e
    have a := h1 (fun x hx => by cases hx) (by omega) _ _ _ rfl
    exact h2 (fit_snoc hm (fit_zero (by decide) (by decide) (by omega) (fo_fit _ (fit_one a.1)))) a.2 _ _ _ e
  · intro items k g o c p _ _ _ _ _ _ t k1 g1 e; cases e
  · intro items k g o r _ _ _ _ _ h2 hm hg t k1 g1 e
    exact h2 (fit_snoc hm (sg_nd_fit cf l ext k)) hg _ _ _ e
/-- What Parse tells fits, and is small. -/
theorem parseN_fit {cf : ByteArray → (Nat → Bool) × Bool} {l : List Int} (hl : Byt l) {ext : Bool} {n : Nat} {t : Nd} {k g : Nat} (h : parseN cf l ext n = some (.ok t k g)) : t.Fit ∧ t.sz ≤ 1026 := by
  obtain ⟨h1, h2, h3, _⟩ := parseN_ok h
  have a := rdR_fit cf hl ext _ _ _ _ _ _ _ _ h2 (fun x hx => by cases hx) (Nat.zero_le _)
  have b := rdR_sz cf l ext _ _ _ _ _ _ _ _ h2 (Nat.zero_le _)
  have z : RM.sz (.re []) = 0 := rfl
  have z2 : RM.ad (.re []) = 2 := rfl
  rw [z, z2] at b
  exact ⟨a.1, by omega⟩
end Go.Proofs.YtcceiblmdjbhjaaGreatDoor
/- The trees that reading tells can be built from (pure). -/
namespace Go.Proofs.YtcceiblmdjbhjaaGreatDoor
open Go.RowKit

theorem Fo.nn_sz : ∀ f : Fo, f.nn = f.sz
  | .nil => rfl
  | .cons _ _ _ _ _ kids rest => by
    show 1 + kids.nn + rest.nn = 1 + kids.sz + rest.sz
    rw [Fo.nn_sz kids, Fo.nn_sz rest]
theorem Nd.nn_sz (n : Nd) : n.nn = n.sz := by unfold Nd.nn Nd.sz; rw [Fo.nn_sz]
def okL (l : List Nd) : Prop := ∀ x ∈ l, x.Ok
theorem fo_ok : ∀ l : List Nd, okL l → (fo l).Ok
  | [], _ => trivial
  | n :: r, h => ⟨(h n (by simp)).1, (h n (by simp)).2, fo_ok r fun x hx => h x (List.mem_cons_of_mem _ hx)⟩
theorem ok_snoc {l : List Nd} {x : Nd} (h : okL l) (hx : x.Ok) : okL (l ++ [x]) := fun y hy => by
  rcases List.mem_append.1 hy with h1 | h1
  · exact h y h1
  · rw [List.mem_singleton.1 h1]; exact hx
theorem ok_one {x : Nd} (h : x.Ok) : okL [x] := fun y hy => by rw [List.mem_singleton.1 hy]; exact h
theorem ok_join {kd : Int} {l : List Nd} (h : okL l) (hl : l ≠ []) (h6 : kd ≠ 6) : (joinN kd l).Ok := by
  unfold joinN
  split
  · exact h _ (by simp)
  · exact ⟨⟨fun _ => by rw [fo_len]; exact List.length_pos_iff.2 hl, fun e => (h6 e).elim⟩, fo_ok _ h⟩
theorem ok_repN {x : Nd} {m n : Int} (h : x.Ok) (h1 : 0 ≤ m ∧ (n = -1 ∨ m ≤ n) ∧ m ≤ 255 ∧ n ≤ 255) : (repN m n x).Ok := ⟨⟨fun e => (by cases e), fun _ => ⟨h1.1, h1.2.1, h1.2.2.1, h1.2.2.2, rfl⟩⟩, fo_ok _ (ok_one h)⟩
theorem ok_rep {l : List Nd} {m n : Int} (h : okL l) (h1 : 0 ≤ m ∧ (n = -1 ∨ m ≤ n) ∧ m ≤ 255 ∧ n ≤ 255) : okL (repL l m n) := by
  unfold repL
  cases hx : l.getLast? with
  | none => exact h
  | some x => exact ok_snoc (fun y hy => h y (List.dropLast_subset _ hy)) (ok_repN (h x (List.mem_of_getLast? hx)) h1)
theorem ok_leaf {kd : Int} {p : Nat → Bool} {mn mx gp : Int} (h5 : kd ≠ 5) (h6 : kd ≠ 6) : Nd.Ok ⟨kd, p, mn, mx, gp, .nil⟩ := ⟨⟨fun e => (h5 e).elim, fun e => (h6 e).elim⟩, trivial⟩
theorem itv_okk {l : List Int} (hl : Byt l) {ext : Bool} {k : Nat} {m n : Int} {k2 : Nat} (h : itv l ext k = some (m, n, k2)) : 0 ≤ m ∧ (n = -1 ∨ m ≤ n) ∧ m ≤ 255 ∧ n ≤ 255 := by
  unfold itv at h
  split at h
  · cases h
  rename_i h0
  have a := numV_fits hl (k := k) (by simpa using h0)
  split at h
  · simp only [Option.some.injEq, Prod.mk.injEq] at h; omega
  split at h
  · cases h
  split at h
  · simp only [Option.some.injEq, Prod.mk.injEq] at h; omega
  split at h
  · rename_i h3
    simp only [Bool.and_eq_true, decide_eq_true_eq] at h3
    have b := numV_fits hl (k := k + nD l k + 1) h3.1.1
    simp only [Option.some.injEq, Prod.mk.injEq] at h; omega
  · cases h
theorem sg_numOk (cf : ByteArray → (Nat → Bool) × Bool) {l : List Int} (hl : Byt l) (ext : Bool) (k : Nat) : (sg cf l ext k).kd = 1 → (sg cf l ext k).er = none → 0 ≤ (sg cf l ext k).lo ∧ ((sg cf l ext k).hi = -1 ∨ (sg cf l ext k).lo ≤ (sg cf l ext k).hi) ∧ (sg cf l ext k).lo ≤ 255 ∧ (sg cf l ext k).hi ≤ 255 := by
  apply sg_cases (fun s => s.kd = 1 → s.er = none → 0 ≤ s.lo ∧ (s.hi = -1 ∨ s.lo ≤ s.hi) ∧ s.lo ≤ 255 ∧ s.hi ≤ 255)
  case h123 => exact fun m n k2 _ hi _ _ => itv_okk hl hi
  all_goals
    intros
    dsimp only
    omega
theorem sg_nd_ok (cf : ByteArray → (Nat → Bool) × Bool) (l : List Int) (ext : Bool) (k : Nat) : (sg cf l ext k).nd.Ok := by
  apply sg_cases (fun s => s.nd.Ok) <;> intros <;> exact ok_leaf (by decide) (by decide)
theorem rdR_okN (cf : ByteArray → (Nat → Bool) × Bool) {l : List Int} (hl : Byt l) (ext : Bool) (n : Nat) (md : RM) (k g o : Nat) (t : Nd) (k1 g1 : Nat) (h : rdR cf l ext n md k g o = some (.ok t k1 g1)) (hm : okL md.list) : t.Ok := by
  have key := rdR_ind cf l ext (fun md _ _ _ r => okL md.list → ∀ t k1 g1, r = .ok t k1 g1 → t.Ok) ?_ ?_ ?_ ?_ ?_ ?_ ?_ ?_ ?_ ?_ ?_ ?_ ?_ ?_ ?_ n md k g o _ h
  · exact key hm t k1 g1 rfl
  · intro bs k g o c p _ _ t k1 g1 e; cases e
  · intro bs k g o b k1 g1 r h1 _ h2 hm t k2 g2 e
    have a := h1 (fun x hx => by cases hx) _ _ _ rfl
    exact h2 (ok_snoc hm a) _ _ _ e
  · intro bs k g o b k1 g1 h1 _ hm t k2 g2 e
    have a := h1 (fun x hx => by cases hx) _ _ _ rfl
    cases e
    exact ok_join (ok_snoc hm a) (by simp) (by decide)
  · intro k g o _ _ t k1 g1 e; cases e
  · intro items k g o _ hne hm t k1 g1 e
    cases e
    exact ok_join hm hne (by decide)
  · intro items k g o r _ _ h2 hm t k1 g1 e
    exact h2 (ok_snoc hm (ok_leaf (by decide) (by decide))) _ _ _ e
  · intro items k g o _ _ _ t k1 g1 e; cases e
  · intro items k g o c p _ _ _ _ t k1 g1 e; cases e
  · intro items k g o r hk1 _ her h2 hm t k1 g1 e
    exact h2 (ok_rep hm (sg_numOk cf hl ext k hk1 her)) _ _ _ e
  · intro items k g o _ _ _ t k1 g1 e; cases e
  · intro items k g o c p _ _ _ _ t k1 g1 e; cases e
  · intro items k g o t k1 g1 _ _ _ _ _ t' k2 g2 e; cases e
  · intro items k g o t k1 g1 r _ h9 h1 _ h2 hm t' k2 g2 e
    have a := h1 (fun x hx => by cases hx) _ _ _ rfl
    exact h2 (ok_snoc hm ⟨⟨fun e => (by cases e), fun e => (by cases e)⟩, fo_ok _ (ok_one a)⟩) _ _ _ e
  · intro items k g o c p _ _ _ _ _ t k1 g1 e; cases e
  · intro items k g o r _ _ _ _ _ h2 hm t k1 g1 e
    exact h2 (ok_snoc hm (sg_nd_ok cf l ext k)) _ _ _ e
/-- What Parse tells can be built from. -/
theorem parseN_okN {cf : ByteArray → (Nat → Bool) × Bool} {l : List Int} (hl : Byt l) {ext : Bool} {n : Nat} {t : Nd} {k g : Nat} (h : parseN cf l ext n = some (.ok t k g)) : t.Ok ∧ t.nn ≤ 1026 ∧ 1 ≤ t.kd := by
  obtain ⟨h1, h2, h3, _⟩ := parseN_ok h
  refine ⟨rdR_okN cf hl ext _ _ _ _ _ _ _ _ h2 (fun x hx => by cases hx), ?_, ?_⟩
  · rw [Nd.nn_sz]; exact (parseN_fit hl h).2
  · exact (rdR_kd cf l ext _ _ _ _ _ _ _ _ h2 (fun x hx => by cases hx) (Nat.zero_le _)).1
end Go.Proofs.YtcceiblmdjbhjaaGreatDoor
/- Plain texts: letters, any byte and *: both grammars read them alike (pure). -/
namespace Go.Proofs.YtcceiblmdjbhjaaGreatDoor
open Go.RowKit

/-- A plain text. -/
def PlainT (l : List Int) : Prop := ∀ k, k < l.length → (97 ≤ l.getD k 0 ∧ l.getD k 0 ≤ 122) ∨ l.getD k 0 = 46 ∨ (l.getD k 0 = 42 ∧ 0 < k)
/-- What is read up to a place. -/
def itemsP (l : List Int) : Nat → List Nd
  | 0 => []
  | k + 1 => if l.getD k 0 = 42 then repL (itemsP l k) 0 (-1) else itemsP l k ++ [if l.getD k 0 = 46 then setN allP else setN (mem [l.getD k 0])]
def plainN (l : List Int) : Nd := joinN 4 (itemsP l l.length)

theorem sgT_pl {l : List Int} {k : Nat} (h : k < l.length) (h92 : l.getD k 0 ≠ 92) : sgT l k = [l.getD k 0] := by
  unfold sgT
  rw [if_pos h, if_neg (fun e => h92 e.1)]
theorem sg_letter (cf : ByteArray → (Nat → Bool) × Bool) {l : List Int} (ext : Bool) {k : Nat} (h : k < l.length) (hc : 97 ≤ l.getD k 0 ∧ l.getD k 0 ≤ 122) :
    sg cf l ext k = ⟨0, [l.getD k 0], setN (mem [l.getD k 0]), 0, 0, none, k + 1⟩ := by
  unfold sg
  rw [sgT_pl h (by omega)]
  generalize l.getD k 0 = c at *
  have hr : roleC [c] ext = 0 := by
    unfold roleC
    rw [if_neg (by simp), if_neg (by simp), if_neg (by simp; omega), if_neg (by simp; omega)]
  have hl : litR [c] ext = .byt c := by
    unfold litR
    rw [if_pos (by simp; omega)]
    rfl
  rw [hr]
  unfold sgR
  rw [if_pos rfl, hl]
  rfl
theorem sg_dot (cf : ByteArray → (Nat → Bool) × Bool) {l : List Int} (ext : Bool) {k : Nat} (h : k < l.length) (hc : l.getD k 0 = 46) :
    sg cf l ext k = ⟨0, [46], setN allP, 0, 0, none, k + 1⟩ := by
  unfold sg
  rw [sgT_pl h (by omega), hc]
  cases ext <;> rfl
theorem sg_star (cf : ByteArray → (Nat → Bool) × Bool) {l : List Int} (ext : Bool) {k : Nat} (h : k < l.length) (hc : l.getD k 0 = 42) :
    sg cf l ext k = ⟨1, [42], zeroN, 0, -1, none, k + 1⟩ := by
  unfold sg
  rw [sgT_pl h (by omega), hc]
  cases ext <;> rfl
theorem sg_over (cf : ByteArray → (Nat → Bool) × Bool) (l : List Int) (ext : Bool) : (sg cf l ext l.length).kd = 5 := by
  unfold sg
  rw [sgT_end l l.length (by omega)]
  rfl
/-- What stands in a row that was read: bytes and rows of them. -/
def PiecesP (L : List Nd) : Prop := ∀ x ∈ L, x.kd = 1 ∨ x.kd = 6
theorem repL_last (L : List Nd) (x : Nd) (m n : Int) : repL (L ++ [x]) m n = L ++ [repN m n x] := by
  unfold repL
  rw [List.getLast?_append]
  simp
theorem itemsP_kd {l : List Int} : ∀ k, PiecesP (itemsP l k)
  | 0 => fun x hx => by cases hx
  | k + 1 => by
    have ih := itemsP_kd (l := l) k
    unfold itemsP
    split
    · rcases List.eq_nil_or_concat (itemsP l k) with e | ⟨L, x, e⟩
      · rw [e]; exact fun y hy => by cases hy
      · rw [e, List.concat_eq_append, repL_last]
        rw [e, List.concat_eq_append] at ih
        intro y hy
        rcases List.mem_append.1 hy with h | h
        · exact ih y (List.mem_append.2 (Or.inl h))
        · rw [List.mem_singleton.1 h]; exact Or.inr rfl
    · intro y hy
      rcases List.mem_append.1 hy with h | h
      · exact ih y h
      · rw [List.mem_singleton.1 h]; split <;> exact Or.inl rfl
theorem itemsP_ne {l : List Int} (hp : PlainT l) : ∀ k, 0 < k → k ≤ l.length → itemsP l k ≠ []
  | 0, h, _ => by omega
  | k + 1, _, hk => by
    unfold itemsP
    split
    · rename_i hc
      have h0 : 0 < k := by rcases hp k (by omega) with h | h | h <;> omega
      have ih := itemsP_ne hp k h0 (by omega)
      rcases List.eq_nil_or_concat (itemsP l k) with e | ⟨L, x, e⟩
      · exact (ih e).elim
      · rw [e, List.concat_eq_append, repL_last]; simp
    · simp
theorem endsP_pieces {L : List Nd} (h : PiecesP L) (hn : L ≠ []) : endsP L = true := by
  unfold endsP
  rcases List.eq_nil_or_concat L with e | ⟨M, x, e⟩
  · exact (hn e).elim
  · rw [e, List.concat_eq_append, List.getLast?_append]
    have := h x (by rw [e, List.concat_eq_append]; simp)
    simp
    omega
theorem rdR_plain (cf : ByteArray → (Nat → Bool) × Bool) {l : List Int} (hp : PlainT l) (h0 : 0 < l.length) (ext : Bool) (g o : Nat) : ∀ (d k n : Nat), k + d = l.length → d < n → rdR cf l ext n (.br (itemsP l k)) k g o = some (.ok (plainN l) l.length g)
  | d, k, 0, _, h => by omega
  | 0, k, n + 1, hk, _ => by
    obtain rfl : k = l.length := by omega
    rw [rdR_br, sg_over]
    rw [if_pos (by rfl), if_neg (itemsP_ne hp _ h0 (Nat.le_refl _))]
    rfl
  | d + 1, k, n + 1, hk, hn => by
    have hlt : k < l.length := by omega
    have ih := rdR_plain cf hp h0 ext g o d (k + 1) n (by omega) (by omega)
    rw [rdR_br]
    by_cases hs : l.getD k 0 = 42
    · have h1 : 0 < k := by rcases hp k hlt with h | h | h <;> omega
      have he := endsP_pieces (itemsP_kd (l := l) k) (itemsP_ne hp k h1 (by omega))
      have hi : itemsP l (k + 1) = repL (itemsP l k) 0 (-1) := by
        show (if l.getD k 0 = 42 then _ else _) = _
        rw [if_pos hs]
      rw [hi] at ih
      have hS := sg_star cf ext hlt hs
      obtain ⟨k1, k2, k3, k4, k5, k6⟩ : (sg cf l ext k).kd = 1 ∧ (sg cf l ext k).tx = [42] ∧ (sg cf l ext k).lo = 0 ∧ (sg cf l ext k).hi = -1 ∧ (sg cf l ext k).er = none ∧ (sg cf l ext k).nx = k + 1 := by rw [hS]; exact ⟨rfl, rfl, rfl, rfl, rfl, rfl⟩
      have hb : ∀ nk, isByt ext (sg cf l ext k) nk (itemsP l k) = false := fun nk => by
        unfold isByt
        rw [k2]
        cases ext
        · simp [he]
        · rfl
      rw [k1, if_neg (by decide), if_neg (by rw [hb]; decide), if_pos rfl, if_neg (by rw [he]; decide), k5]
      dsimp only
      rw [k3, k4, k6]
      exact ih
    · obtain ⟨c, nd, hi, k1, k2, k3, k5, k6, k7, k8, k9⟩ : ∃ c nd, itemsP l (k + 1) = itemsP l k ++ [nd] ∧ (sg cf l ext k).kd = 0 ∧ (sg cf l ext k).tx = [c] ∧ (sg cf l ext k).nd = nd ∧ (sg cf l ext k).er = none ∧ (sg cf l ext k).nx = k + 1 ∧ c ≠ 94 ∧ c ≠ 36 ∧ c ≠ 42 := by
        by_cases hd : l.getD k 0 = 46
        · refine ⟨46, setN allP, ?_, ?_⟩
          · show (if l.getD k 0 = 42 then _ else _) = _
            rw [if_neg hs, if_pos hd]
          · rw [sg_dot cf ext hlt hd]; exact ⟨rfl, rfl, rfl, rfl, rfl, by decide, by decide, by decide⟩
        · have hc : 97 ≤ l.getD k 0 ∧ l.getD k 0 ≤ 122 := by rcases hp k hlt with h | h | h <;> omega
          refine ⟨l.getD k 0, setN (mem [l.getD k 0]), ?_, ?_⟩
          · show (if l.getD k 0 = 42 then _ else _) = _
            rw [if_neg hs, if_neg hd]
          · rw [sg_letter cf ext hlt hc]; exact ⟨rfl, rfl, rfl, rfl, rfl, by omega, by omega, by omega⟩
      have hb : ∀ nk, isByt ext (sg cf l ext k) nk (itemsP l k) = false := fun nk => by
        unfold isByt
        rw [k2]
        cases ext
        · simp [k7, k8, k9]
        · rfl
      rw [k1, if_neg (by decide), if_neg (by rw [hb]; decide), if_neg (by decide), if_neg (by decide), k5]
      dsimp only
      rw [k3, k6, ← hi]
      exact ih
/-- Both grammars read a plain text alike. -/
theorem parse_plain (cf : ByteArray → (Nat → Bool) × Bool) {l : List Int} (hp : PlainT l) (h0 : 0 < l.length) (h1 : l.length ≤ 256) (ext : Bool) : parseN cf l ext (l.length + 2) = some (.ok (plainN l) l.length 0) := by
  have h := rdR_plain cf hp h0 ext 0 0 l.length 0 (l.length + 1) (by omega) (by omega)
  have e : itemsP l 0 = [] := rfl
  rw [e] at h
  unfold parseN
  rw [if_neg (by omega), rdR_re, h]
  dsimp only
  rw [sg_over, if_neg (by decide)]
  dsimp only
  rw [sg_over, if_pos rfl]
  rfl
theorem foW_snoc : ∀ (L : List Nd) (x : Nd), (fo (L ++ [x])).W = (fo L).W + x.W
  | [], x => by show x.W + 0 = 0 + x.W; omega
  | n :: r, x => by
    have := foW_snoc r x
    show n.W + (fo (r ++ [x])).W = n.W + (fo r).W + x.W
    omega
theorem itemsP_w (l : List Int) : ∀ k, (fo (itemsP l k)).W ≤ k
  | 0 => Nat.le_refl _
  | k + 1 => by
    have ih := itemsP_w l k
    unfold itemsP
    split
    · rcases List.eq_nil_or_concat (itemsP l k) with e | ⟨L, x, e⟩
      · rw [e]; exact Nat.zero_le _
      · rw [e, List.concat_eq_append, foW_snoc] at ih
        rw [e, List.concat_eq_append, repL_last, foW_snoc]
        have : (repN 0 (-1) x).W = x.W + 1 := by
          have e2 : (fo [x]).W = x.W := Nat.add_zero _
          have e3 : (repN 0 (-1) x).W = 1 * (fo [x]).W + 1 := rfl
          rw [e3, e2, Nat.one_mul]
        omega
    · rw [foW_snoc]
      have : ∀ p, (setN p).W = 1 := fun p => rfl
      split <;> rw [this] <;> omega
theorem plainN_w (l : List Int) : (plainN l).W ≤ l.length := by
  have h := itemsP_w l l.length
  unfold plainN joinN
  split
  · rename_i x e
    rw [e] at h
    have e2 : (fo [x]).W = x.W := Nat.add_zero _
    omega
  · exact h
end Go.Proofs.YtcceiblmdjbhjaaGreatDoor
/- NfaGrammars: its walk (gen_nfgr.py). -/
namespace Go.Proofs.YtcceiblmdjbhjaaGreatDoor
open Go.RowKit

/-- A byte that is taken or not. -/
def plS (L : List Int) (c : Int) : List Int := if (97 ≤ c ∧ c ≤ 122) ∨ c = 46 ∨ (c = 42 ∧ 0 < L.length ∧ L.getD (L.length - 1) 0 ≠ 42) then L ++ [c] else L
def plF (l : List Int) (k : Nat) : List Int := (l.take k).foldl plS []
theorem plF_succ {l : List Int} {k : Nat} (h : k < l.length) : plF l (k + 1) = plS (plF l k) (l.getD k 0) := by
  unfold plF
  rw [List.take_succ_eq_append_getElem h, List.foldl_append, List.getD_eq_getElem?_getD, List.getElem?_eq_getElem h]
  rfl
theorem plS_len (L : List Int) (c : Int) : (plS L c).length ≤ L.length + 1 := by
  unfold plS
  split <;> simp
theorem plF_len (l : List Int) : ∀ k, (plF l k).length ≤ k
  | 0 => by simp [plF]
  | k + 1 => by
    have ih := plF_len l k
    by_cases h : k < l.length
    · rw [plF_succ h]; have := plS_len (plF l k) (l.getD k 0); omega
    · have e : plF l (k + 1) = plF l k := by unfold plF; rw [List.take_of_length_le (by omega), List.take_of_length_le (by omega)]
      rw [e]; omega
theorem plain_snoc {L : List Int} {c : Int} (h : PlainT L) (hc : (97 ≤ c ∧ c ≤ 122) ∨ c = 46 ∨ (c = 42 ∧ 0 < L.length)) : PlainT (L ++ [c]) := fun k hk => by
  rw [List.length_append, List.length_singleton] at hk
  by_cases hl : k < L.length
  · rw [List.getD_eq_getElem?_getD, List.getElem?_append_left hl, ← List.getD_eq_getElem?_getD]
    exact h k hl
  · obtain rfl : k = L.length := by omega
    rw [List.getD_eq_getElem?_getD, List.getElem?_append_right (by omega), Nat.sub_self]
    exact hc
theorem plF_plain (l : List Int) : ∀ k, PlainT (plF l k)
  | 0 => fun k h => by simp [plF] at h
  | k + 1 => by
    have ih := plF_plain l k
    by_cases h : k < l.length
    · rw [plF_succ h]
      unfold plS
      split
      · rename_i hc
        exact plain_snoc ih (hc.imp id (Or.imp id fun h => ⟨h.1, h.2.1⟩))
      · exact ih
    · have e : plF l (k + 1) = plF l k := by unfold plF; rw [List.take_of_length_le (by omega), List.take_of_length_le (by omega)]
      rw [e]; exact ih
theorem plain_byt {L : List Int} (h : PlainT L) : Byt L := fun k => by
  by_cases hk : k < L.length
  · rcases h k hk with h | h | h <;> omega
  · rw [List.getD_eq_getElem?_getD, List.getElem?_eq_none (by omega)]
    decide
theorem plain_no91 {L : List Int} (h : PlainT L) (k : Nat) : ¬ L.getD k 0 = 91 := by
  by_cases hk : k < L.length
  · rcases h k hk with h | h | h <;> omega
  · rw [List.getD_eq_getElem?_getD, List.getElem?_eq_none (by omega)]
    decide
/-- A row of bytes of one's own. -/
def OwB (B : Nat) (v : Value) (L : List Int) (w : World) : Prop := w.ownsRow B 5 1 v L.length (L.map (Value.int .u8))
theorem sl_partsG {w : World} {v : Value} {l : List Int} (h : Sl w v l) : ∃ a cap, v = .slice a l.length cap := by
  rcases h.2.2 with ⟨rfl, a, c, e⟩ | ⟨b, o, c, e, _⟩
  · exact ⟨a, c, e⟩
  · exact ⟨_, c, e⟩
theorem ownsRow_nilG (w : World) : OwB w.heap.size (.slice none 0 0) [] w := ⟨rfl, Or.inl ⟨rfl, rfl⟩⟩
theorem OwB.below' {B : Nat} {v : Value} {L : List Int} {w w' : World} (h : OwB B v L w) (hb : Below w.heap.size w w') : OwB B v L w' := own_same h fun _ _ _ hc => (blk_below hc hb).trans hc.symm
theorem OwB.sl {B : Nat} {v : Value} {L : List Int} {w : World} (h : OwB B v L w) (hb : Byt L) (hl : L.length ≤ 9223372036854775807) : Sl w v L := by
  refine ⟨hb, hl, ?_⟩
  obtain ⟨_, ⟨rfl, hz⟩ | ⟨g, cap, cu, rfl, hB, hg, hnc, hcm, hcs, htk⟩⟩ := h
  · rw [hz]
    exact Or.inl ⟨List.length_eq_zero_iff.1 hz, none, 0, rfl⟩
  · refine Or.inr ⟨g, 0, cap, rfl, hnc, by unfold maxLen at hcm; omega, fun i hi => ?_⟩
    rw [Lib.cell_of_heap hg, Nat.zero_add]
    have h1 : (cu.toList.take (L.length * 1))[i]? = (L.map (Value.int .u8))[i]? := by rw [htk]
    rw [List.getElem?_take, if_pos (by omega), List.getElem?_map, List.getElem?_eq_getElem hi] at h1
    rw [List.getD_eq_getElem?_getD, List.getElem?_eq_getElem hi]
    simpa using h1
theorem OwB.last {B : Nat} {v : Value} {L : List Int} {w : World} (h : OwB B v L w) (hl : 0 < L.length) : ∃ b c, v = .slice (some ⟨b, 0, none⟩) L.length c ∧ w.cell? ⟨b, L.length - 1, none⟩ = some (.int .u8 (L.getD (L.length - 1) 0)) ∧ b < w.heap.size := by
  obtain ⟨_, ⟨_, hz⟩ | ⟨g, cap, cu, rfl, hB, hg, hnc, hcm, hcs, htk⟩⟩ := h
  · omega
  refine ⟨g, cap, rfl, ?_, lt_blkB hg⟩
  rw [Lib.cell_of_heap hg]
  have h1 : (cu.toList.take (L.length * 1))[L.length - 1]? = (L.map (Value.int .u8))[L.length - 1]? := by rw [htk]
  have hl1 : L.length - 1 < L.length := by omega
  rw [List.getElem?_take, if_pos (by omega), List.getElem?_map, List.getElem?_eq_getElem (l := L) hl1] at h1
  rw [List.getD_eq_getElem?_getD, List.getElem?_eq_getElem hl1]
  simpa using h1
theorem app_byte9 {w : World} {ops : Array Oper} {rest : List Oper} {o : Oper} {a : Act} {Q : Exit → Act → World → Prop} (hgd : o.guard = none) (s x : Operand)
    (ho : o.op = .call { callee := .builtin .append, args := #[s, x], argTypes := #[22, 22] })
    (B : Nat) (v : Value) (L : List Int) (hs : a.eval s = v) (hown : OwB B v L w) (c : Int) (gb : Nat) (hx : a.eval x = .slice (some ⟨gb, 0, none⟩) 1 1)
    (hgb : w.heap[gb]? = some (.cells #[.int .u8 c] 5 (0, 0))) (hlen : L.length ≤ 1048576) (hB : B ≤ w.heap.size)
    (h : ∀ v' w', OwB B v' (L ++ [c]) w' → Below B w w' → wpList Tryz.prog ops Q rest (a.put o.dst v') w') : wpList Tryz.prog ops Q (o :: rest) a w := by
  obtain ⟨i0, hi, hz0, hz1, hz2⟩ := info_parts byte_row
  refine wpList_append_own_at w hgd s x _ ho B 5 i0 (.int .u8 0) 1 1 Tryz.underlying22 hi hz0 hz1 hz2 rfl (by decide) v L.length (L.map (Value.int .u8)) hs hown ⟨gb, 0, none⟩ 1 1 [.int .u8 c] hx rfl ?_ (fun u hu => by rw [List.mem_singleton.1 hu]; rfl) (by unfold maxLen; omega) (by omega) hB ?_
  · intro j u hj
    rw [WideShapes.add_plain, Nat.zero_add, Lib.cell_of_heap hgb]
    simpa using hj
  · intro v' w' ho' hg' _ _
    refine h v' w' ?_ ((Below.refl B w).grown hg' hB (fun k hk => (hown.lt k hk).1))
    unfold OwB
    rw [List.length_append, List.length_singleton, List.map_append]
    exact ho'

set_option maxRecDepth 100000 in
set_option maxHeartbeats 16000000 in
theorem ngr_any (e : Nat → Addr) (v0 v1 : Value) (l l1 : List Int) (w : World) (he : Es w w.heap.size e) (ht : Ety w) (hs0 : Sl w v0 l) (hs1 : Sl w v1 l1) (hl0 : l.length ≤ 1048576) (hl1 : l1.length ≤ 1048576) :
    Calls Tryz.prog 7 #[v0, v1] w fun x w' => x = .returned (.bool true) ∧ Below w.heap.size w w' := by
  obtain ⟨va, vc, rfl⟩ := sl_partsG hs0
  have HS0 := Lib.hid hs0
  have HAW : Hid (∀ X, Below w.heap.size w X → Calls Tryz.prog 12 #[] X fun x w' => x = .returned (.bool true) ∧ Below X.heap.size X w') := Lib.hid (fun X hX => awake9_any e X ⟨(he.below hX).var, Nat.lt_of_lt_of_le he.low hX.size, Nat.le_refl _⟩ (ht.below hX))
  have HIN : Hid (OwB w.heap.size (.slice none 0 0) (plF l 0) w) := Lib.hid (ownsRow_nilG w)
  obtain ⟨L, hL⟩ : ∃ L, L = plF l l.length := ⟨_, rfl⟩
  have HLE : Hid (plF l l.length = L) := Lib.hid hL.symm
  have HLL : Hid (∀ k, k ≤ l.length → (plF l k).length ≤ 1048576) := Lib.hid (fun k hk => by have := plF_len l k; omega)
  have hpl : PlainT L := by rw [hL]; exact plF_plain l _
  have HPA : Hid (0 < L.length → L.length ≤ 256 → ∀ X v ext, Below w.heap.size w X → OwB w.heap.size v L X → Calls Tryz.prog 26 #[v, .bool ext] X (ParP e ext (.ok (plainN L) L.length 0) X)) := Lib.hid (fun h0 h1 X v ext hX hv => by
    refine parse_any (fun _ => (fun _ => false, false)) e v L (bkC_none _ (plain_no91 hpl)) ext (L.length + 2) _ X ⟨(he.below hX).var, Nat.lt_of_lt_of_le he.low hX.size, Nat.le_refl _⟩ (ht.below hX) (hv.sl (plain_byt hpl) (by omega)) (fun x o n cap hv2 => ?_) (parse_plain _ hpl h0 h1 ext)
    have := hv.lt x (by rw [hv2]; rfl)
    exact this.2)
  have HOK : 0 < L.length → L.length ≤ 256 → (plainN L).Ok ∧ (plainN L).nn ≤ 1026 ∧ 1 ≤ (plainN L).kd := fun h0 h1 => parseN_okN (plain_byt hpl) (parse_plain (fun _ => (fun _ => false, false)) hpl h0 h1 true)
  have HSZ : 0 < L.length → L.length ≤ 256 → (plainN L).sz ≤ 1026 := fun h0 h1 => (parseN_fit (plain_byt hpl) (parse_plain (fun _ => (fun _ => false, false)) hpl h0 h1 true)).2
  have hW := plainN_w L
  have HBU : Hid (0 < L.length → L.length ≤ 256 → ∀ X p kv S ext, ReAt X p (plainN L) kv 0 ext → (plainN L).In X S kv → Calls Tryz.prog 13 #[.pointer (some ⟨p, 0, none⟩)] X (BuQ (plainN L) X)) := Lib.hid (fun h0 h1 X p kv S ext hr hi => by
    have a := HOK h0 h1
    have b := HSZ h0 h1
    exact build_at S X p _ kv 0 ext hr (by omega) (by omega) a.1 a.2.2 hi (by omega))
  have HWT : Hid (0 < L.length → L.length ≤ 256 → ∀ X p kv S ext, ReAt X p (plainN L) kv 0 ext → (plainN L).In X S kv → Calls Tryz.prog 14 #[.pointer (some ⟨p, 0, none⟩)] X (fun x w' => x = .returned (.int .i64 ((min ((plainN L).W + 1) 4001 : Nat) : Int)) ∧ Below X.heap.size X w')) := Lib.hid (fun h0 h1 X p kv S ext hr hi => by
    have a := HOK h0 h1
    have b := HSZ h0 h1
    exact weightO_at S X p _ kv 0 ext hr (by omega) (by omega) a.1 a.2.2 hi)
  have HAC : Hid (0 < L.length → L.length ≤ 256 → ∀ B gb X, Below w.heap.size w X → GrAt B gb (plainN L).G.1 (plainN L).G.2 X → Calls Tryz.prog 21 #[.pointer (some ⟨gb, 0, none⟩), v1] X fun r w' => r = .returned (.bool (accF (plainN L).G l1)) ∧ Below X.heap.size X w') := Lib.hid (fun h0 h1 B gb X hX hg => by
    have a := HOK h0 h1
    have hlen : (plainN L).G.1.length ≤ 1000000 := by have := Nd.lenB _ a.1 [.acc] 0; unfold Nd.G; simp at this; omega
    exact nacc_any B gb (plainN L).G.2 (plainN L).G.1 v1 l1 X (Nd.clG _ a.1) hlen hg (Nd.g_start _ a.1) (hs1.below hX) (by omega))
  generalize min ((plainN L).W + 1) 4001 = Q at HWT
  generalize accF (plainN L).G l1 = R at HAC
  clear he ht hs0 hs1 HOK HSZ hW hpl hL
  unfold BuQ at HBU
  unfold ParP at HPA
  dsimp only at HPA
  go_enter Tryz.func7, Tryz.ntmps7
  go_upto_region 3 with fail
  go_loopg [5, 7, 18] l.length (fun gh s5 s7 s18 X => ∃ k : Nat, gh = l.length - k ∧ k ≤ l.length ∧ (∃ a m c, s5 = .slice a m c) ∧ s7 = s7 ∧ s18 = .int .i64 (k : Nat) ∧ Aside (OwB w.heap.size s5 (plF l k) X ∧ Below w.heap.size w X))
  case atStart => exact ⟨0, by omega, Nat.zero_le _, ⟨_, _, _, rfl⟩, rfl, rfl, HIN.out, Below.refl _ _⟩
  case round =>
    obtain ⟨k, hgh, hk, ⟨pa, pm, pc, rfl⟩, _, rfl, hal⟩ := hrel
    obtain ⟨how, hbk⟩ := hal.out
    have HGH := Lib.hid hgh
    have HBK := Lib.hid hbk
    clear hal hgh
    by_cases hlt : k < l.length
    · have hlti : (k : Int) < (l.length : Int) := by omega
      have hk0 : (0 : Int) ≤ (k : Int) := by omega
      obtain ⟨hby, _, ⟨e0, _⟩ | ⟨lb, lo, lc, hle, hcap, hcm, hrow⟩⟩ := HS0.out.below hbk
      · rw [e0] at hlt; cases hlt
      simp only [Value.slice.injEq] at hle
      obtain ⟨rfl, _, rfl⟩ := hle
      have hcell := hrow k hlt
      have hlz : lb < wr.heap.size := World.block_lt_of_cell? _ _ hcell
      have HSU : Hid (plF l (k + 1) = plS (plF l k) (l.getD k 0)) := Lib.hid (plF_succ hlt)
      have hplen := HLL.out k hk
      obtain ⟨c, hcc⟩ : ∃ c : Nat, l.getD k 0 = (c : Int) := ⟨(l.getD k 0).toNat, by have := (hby k).1; omega⟩
      have hc256 : c < 256 := by have := (hby k).2; omega
      rw [hcc] at hcell HSU
      generalize plF l k = P at *
      clear hby hcap hcm hrow hbk hcc
      have hpm : pm = P.length := by obtain ⟨_, _, e2⟩ := own_shapeR how; simp only [Value.slice.injEq] at e2; exact e2.2.1
      subst hpm
      have HOW := Lib.hid how
      have HAPP : Hid (∀ y : Int, OwB w.heap.size (.slice pa P.length pc) P (wr.alloc (.cells #[.int .u8 y] 5))) := Lib.hid (fun y => how.below' ((Below.refl _ _).alloc (Nat.le_refl _) _))
      have HBK1 : Hid (∀ y : Int, Below w.heap.size w (wr.alloc (.cells #[.int .u8 y] 5))) := Lib.hid (fun y => HBK.out.alloc HBK.out.size _)
      have HGB : Hid (∀ y : Int, (wr.alloc (.cells #[.int .u8 y] 5)).heap[wr.heap.size]? = some (.cells #[.int .u8 y] 5 (0, 0))) := Lib.hid (fun y => alloc_last _ _)
      have hci : (c : Int) < 256 := by omega
      clear how
      by_cases hA : 97 ≤ c ∧ c ≤ 122
      · have HST : Hid (plF l (k + 1) = P ++ [(c : Int)]) := Lib.hid (by rw [HSU.out]; unfold plS; rw [if_pos (by omega)])
        have i1 : (97 : Int) ≤ (c : Int) := by omega
        have i2 : (c : Int) ≤ 122 := by omega
        go_wp2_with (first | (refine app_byte9 rfl _ _ rfl w.heap.size _ P rfl (HAPP.out _) _ wr.heap.size rfl (HGB.out _) hplen (HBK1.out _).size ?_; rintro v' w' hv' hb') | fail)
        obtain ⟨qa, qc, rfl⟩ := own_shapeR hv'
        have HV := Lib.hid hv'
        have HB' := Lib.hid ((HBK1.out _).trans hb')
        clear hv' hb'
        go_wp2_with fail
        go_roundg (l.length - (k + 1))
        case measure => have := HGH.out; omega
        case rel => exact ⟨k + 1, rfl, by omega, ⟨_, _, _, rfl⟩, trivial, by rw [Int.natCast_add]; rfl, by rw [HST.out]; exact HV.out, HB'.out⟩
      by_cases hB : c = 46
      · subst hB
        have HST : Hid (plF l (k + 1) = P ++ [46]) := Lib.hid (by rw [HSU.out]; unfold plS; rw [if_pos (by omega)]; rfl)
        go_wp2_with (first | (refine app_byte9 rfl _ _ rfl w.heap.size _ P rfl (HAPP.out _) _ wr.heap.size rfl (HGB.out _) hplen (HBK1.out _).size ?_; rintro v' w' hv' hb') | fail)
        obtain ⟨qa, qc, rfl⟩ := own_shapeR hv'
        have HV := Lib.hid hv'
        have HB' := Lib.hid ((HBK1.out _).trans hb')
        clear hv' hb'
        go_wp2_with fail
        go_roundg (l.length - (k + 1))
        case measure => have := HGH.out; omega
        case rel => exact ⟨k + 1, rfl, by omega, ⟨_, _, _, rfl⟩, trivial, by rw [Int.natCast_add]; rfl, by rw [HST.out]; exact HV.out, HB'.out⟩
      have hab : (97 ≤ c ∧ 122 < c) ∨ c < 97 := by omega
      by_cases hC : c = 42
      · subst hC
        clear hA hB hab
        by_cases hP : P.length = 0
        · have HST : Hid (plF l (k + 1) = P) := Lib.hid (by rw [HSU.out]; unfold plS; rw [if_neg (by omega)])
          have HOW : Hid (OwB w.heap.size (.slice pa 0 pc) P wr) := Lib.hid (by have h := HOW.out; rw [hP] at h; exact h)
          have hP0 : (P.length : Int) = 0 := by omega
          go_wp2_with fail
          go_roundg (l.length - (k + 1))
          case measure => have := HGH.out; omega
          case rel => exact ⟨k + 1, rfl, by omega, ⟨_, _, _, rfl⟩, trivial, by rw [Int.natCast_add]; rfl, by rw [HST.out]; exact HOW.out, HBK.out⟩
        · obtain ⟨b, c9, hle, hlc, hlb⟩ := HOW.out.last (by omega)
          simp only [Value.slice.injEq] at hle
          obtain ⟨rfl, _, rfl⟩ := hle
          have hP0 : (0 : Int) < (P.length : Int) := by omega
          have hP1 : (P.length : Int) - 1 = ((P.length - 1 : Nat) : Int) := by omega
          have hP2 : P.length - 1 < P.length := by omega
          have hP3 : 0 < P.length := by omega
          by_cases hQ : P.getD (P.length - 1) 0 = 42
          · have HST : Hid (plF l (k + 1) = P) := Lib.hid (by rw [HSU.out]; unfold plS; rw [if_neg (by omega)])
            rw [hQ] at hlc
            go_wp2_with fail
            go_roundg (l.length - (k + 1))
            case measure => have := HGH.out; omega
            case rel => exact ⟨k + 1, rfl, by omega, ⟨_, _, _, rfl⟩, trivial, by rw [Int.natCast_add]; rfl, by rw [HST.out]; exact HOW.out, HBK.out⟩
          · have HST : Hid (plF l (k + 1) = P ++ [42]) := Lib.hid (by rw [HSU.out]; unfold plS; rw [if_pos (by omega)]; rfl)
            obtain ⟨q, hq⟩ : ∃ q, q = P.getD (P.length - 1) 0 := ⟨_, rfl⟩
            rw [← hq] at hlc hQ
            have hQ1 : (q != 42) = true := by simpa using hQ
            clear hq
            go_wp2_with (first | (refine app_byte9 rfl _ _ rfl w.heap.size _ P rfl (HAPP.out _) _ wr.heap.size rfl (HGB.out _) hplen (HBK1.out _).size ?_; rintro v' w' hv' hb') | fail)
            obtain ⟨qa, qc, rfl⟩ := own_shapeR hv'
            have HV := Lib.hid hv'
            have HB' := Lib.hid ((HBK1.out _).trans hb')
            clear hv' hb'
            go_wp2_with fail
            go_roundg (l.length - (k + 1))
            case measure => have := HGH.out; omega
            case rel => exact ⟨k + 1, rfl, by omega, ⟨_, _, _, rfl⟩, trivial, by rw [Int.natCast_add]; rfl, by rw [HST.out]; exact HV.out, HB'.out⟩
      have HST : Hid (plF l (k + 1) = P) := Lib.hid (by rw [HSU.out]; unfold plS; rw [if_neg (by omega)])
      have hB1 : ¬ (c : Int) = 46 := by omega
      have hC1 : ¬ (c : Int) = 42 := by omega
      have hB2 : ((c : Int) == 46) = false := beq_eq_false_iff_ne.2 hB1
      have hC2 : ((c : Int) == 42) = false := beq_eq_false_iff_ne.2 hC1
      rcases hab with ⟨i1, i2⟩ | i1
      · have j1 : (97 : Int) ≤ (c : Int) := by omega
        have j2 : ¬ (c : Int) ≤ 122 := by omega
        go_wp2_with fail
        go_roundg (l.length - (k + 1))
        case measure => have := HGH.out; omega
        case rel => exact ⟨k + 1, rfl, by omega, ⟨_, _, _, rfl⟩, trivial, by rw [Int.natCast_add]; rfl, by rw [HST.out]; exact HOW.out, HBK.out⟩
      · have j1 : ¬ (97 : Int) ≤ (c : Int) := by omega
        go_wp2_with fail
        go_roundg (l.length - (k + 1))
        case measure => have := HGH.out; omega
        case rel => exact ⟨k + 1, rfl, by omega, ⟨_, _, _, rfl⟩, trivial, by rw [Int.natCast_add]; rfl, by rw [HST.out]; exact HOW.out, HBK.out⟩
    · have hlti : ¬ (k : Int) < (l.length : Int) := by omega
      obtain rfl : k = l.length := by omega
      rw [HLE.out] at how
      have hpm : pm = L.length := by obtain ⟨_, _, e2⟩ := own_shapeR how; simp only [Value.slice.injEq] at e2; exact e2.2.1
      subst hpm
      have HOW := Lib.hid how
      clear how hbk
      by_cases hz : L.length = 0
      · have HA := Lib.hid (HAW.out wr HBK.out)
        rw [hz] at *
        go_wp2_with fail
        refine HA.out.mono ?_
        rintro x w2 ⟨rfl, hb2⟩
        have HB2 := Lib.hid (HBK.out.trans (hb2.mono HBK.out.size))
        clear hb2
        go_wp2
        go_ret
        exact ⟨rfl, HB2.out⟩
      have hz0 : ¬ (L.length : Int) = 0 := by omega
      have hz1 : ((L.length : Int) == 0) = false := beq_eq_false_iff_ne.2 hz0
      by_cases h256 : 256 < L.length
      · have h256i : (256 : Int) < (L.length : Int) := by omega
        have HA := Lib.hid (HAW.out wr HBK.out)
        go_wp2_with fail
        refine HA.out.mono ?_
        rintro x w2 ⟨rfl, hb2⟩
        have HB2 := Lib.hid (HBK.out.trans (hb2.mono HBK.out.size))
        clear hb2
        go_wp2
        go_ret
        exact ⟨rfl, HB2.out⟩
      have h256i : ¬ (256 : Int) < (L.length : Int) := by omega
      have g0 : 0 < L.length := by omega
      have g1 : L.length ≤ 256 := by omega
      have HP1 := Lib.hid (HPA.out g0 g1 wr _ false HBK.out HOW.out)
      have HPB := Lib.hid (HPA.out g0 g1)
      have HBU1 := Lib.hid (HBU.out g0 g1)
      have HWT1 := Lib.hid (HWT.out g0 g1)
      have HAC1 := Lib.hid (HAC.out g0 g1)
      clear HPA HBU HWT HAC g0 g1 HLL HIN
      go_wp2_with fail
      refine HP1.out.mono ?_
      rintro x w2 ⟨p1, a1, m1, c1, rfl, hp1, hr1, hi1, hb2⟩
      have HB2 := Lib.hid (HBK.out.trans (hb2.mono HBK.out.size))
      have HP2 := Lib.hid (HPB.out w2 _ true HB2.out (HOW.out.below' hb2))
      have HR1 := Lib.hid hr1
      have HI1 := Lib.hid hi1
      clear hp1 hr1 hi1 hb2
      go_wp2_with fail
      refine HP2.out.mono ?_
      rintro x w3 ⟨p2, a2, m2, c2, rfl, hp2, hr2, hi2, hb3⟩
      have HB3 := Lib.hid (HB2.out.trans (hb3.mono HB2.out.size))
      have HR1b := Lib.hid (blk_below HR1.out hb3)
      have HI1b := Lib.hid (HI1.out.below hb3)
      have HR2 := Lib.hid hr2
      have HI2 := Lib.hid hi2
      have HX := Lib.hid (HBU1.out w3 p1 _ _ _ HR1b.out HI1b.out)
      clear hp2 hr2 hi2 hb3
      go_wp2_with fail
      refine HX.out.mono ?_
      rintro x w4 ⟨B1, gb1, rfl, _, hg1, hb4⟩
      have HB4 := Lib.hid (HB3.out.trans (hb4.mono HB3.out.size))
      have HG1 := Lib.hid hg1
      have HR1c := Lib.hid (blk_below HR1b.out hb4)
      have HI1c := Lib.hid (HI1b.out.below hb4)
      have HR2c := Lib.hid (blk_below HR2.out hb4)
      have HI2c := Lib.hid (HI2.out.below hb4)
      have HX2 := Lib.hid (HBU1.out w4 p2 _ _ _ HR2c.out HI2c.out)
      clear hg1 hb4
      go_wp2_with fail
      refine HX2.out.mono ?_
      rintro x w5 ⟨B2, gb2, rfl, _, hg2, hb5⟩
      have HB5 := Lib.hid (HB4.out.trans (hb5.mono HB4.out.size))
      have HG1d := Lib.hid (HG1.out.below hb5)
      have HG2 := Lib.hid hg2
      have HR1d := Lib.hid (blk_below HR1c.out hb5)
      have HI1d := Lib.hid (HI1c.out.below hb5)
      have HR2d := Lib.hid (blk_below HR2c.out hb5)
      have HI2d := Lib.hid (HI2c.out.below hb5)
      have HX3 := Lib.hid (HAC1.out B1 gb1 w5 HB5.out HG1d.out)
      clear hg2 hb5
      go_wp2_with fail
      refine HX3.out.mono ?_
      rintro x w6 ⟨rfl, hb6⟩
      have HB6 := Lib.hid (HB5.out.trans (hb6.mono HB5.out.size))
      have HX4 := Lib.hid (HAC1.out B2 gb2 w6 HB6.out (HG2.out.below hb6))
      have HR1e := Lib.hid (blk_below HR1d.out hb6)
      have HI1e := Lib.hid (HI1d.out.below hb6)
      have HR2e := Lib.hid (blk_below HR2d.out hb6)
      have HI2e := Lib.hid (HI2d.out.below hb6)
      clear hb6
      go_wp2_with fail
      refine HX4.out.mono ?_
      rintro x w7 ⟨rfl, hb7⟩
      have HB7 := Lib.hid (HB6.out.trans (hb7.mono HB6.out.size))
      have HX5 := Lib.hid (HWT1.out w7 p1 _ _ _ (blk_below HR1e.out hb7) (HI1e.out.below hb7))
      have HR2f := Lib.hid (blk_below HR2e.out hb7)
      have HI2f := Lib.hid (HI2e.out.below hb7)
      clear hb7
      go_wp2_with fail
      refine HX5.out.mono ?_
      rintro x w8 ⟨rfl, hb8⟩
      have HB8 := Lib.hid (HB7.out.trans (hb8.mono HB7.out.size))
      have HX6 := Lib.hid (HWT1.out w8 p2 _ _ _ (blk_below HR2f.out hb8) (HI2f.out.below hb8))
      clear hb8
      go_wp2_with fail
      refine HX6.out.mono ?_
      rintro x w9 ⟨rfl, hb9⟩
      have HB9 := Lib.hid (HB8.out.trans (hb9.mono HB8.out.size))
      clear hb9
      go_wp2_with fail
      refine (HAW.out w9 HB9.out).mono ?_
      rintro x w10 ⟨rfl, hb10⟩
      have HB10 := Lib.hid (HB9.out.trans (hb10.mono HB9.out.size))
      clear hb10
      go_wp2
      go_ret
      exact ⟨rfl, HB10.out⟩
end Go.Proofs.YtcceiblmdjbhjaaGreatDoor
