/- KGq: several texts in one (kmerge.py). -/
import Derived.Test.YtcceiblmdjbhjaaGreatDoorKTb
import Derived.Test.YtcceiblmdjbhjaaGreatDoorKNw
import Derived.Test.YtcceiblmdjbhjaaGreatDoorKPu
import Derived.Lib.SlBytesConst
/- The trees that reading tells fit, and are small (pure). -/
namespace Go.Proofs.YtcceiblmdjbhjaaGreatDoor
open Go.RowKit

def fitL (l : List Nd) : Prop := ∀ x ∈ l, x.Fit
theorem fo_fit : ∀ l : List Nd, fitL l → (fo l).Fit
  | [], _ => trivial
  | n :: r, h => ⟨(h n (by simp)).1, (h n (by simp)).2, fo_fit r fun x hx => h x (List.mem_cons_of_mem _ hx)⟩
theorem fit_zero {kd : Int} {p : Nat → Bool} {mn mx gp : Int} {kids : Fo} (h1 : -9223372036854775808 ≤ mn ∧ mn ≤ 9223372036854775807) (h2 : -9223372036854775808 ≤ mx ∧ mx ≤ 9223372036854775807) (h3 : -9223372036854775808 ≤ gp ∧ gp ≤ 9223372036854775807) (hk : kids.Fit) : (Nd.mk kd p mn mx gp kids).Fit := ⟨⟨h1, h2, h3⟩, hk⟩
theorem fit_join {kd : Int} {l : List Nd} (h : fitL l) : (joinN kd l).Fit := by
  unfold joinN
  split
  · exact h _ (by simp)
  · exact fit_zero (by omega) (by omega) (by omega) (fo_fit _ h)
theorem fit_snoc {l : List Nd} {x : Nd} (h : fitL l) (hx : x.Fit) : fitL (l ++ [x]) := fun y hy => by
  rcases List.mem_append.1 hy with h1 | h1
  · exact h y h1
  · rw [List.mem_singleton.1 h1]; exact hx
theorem fit_one {x : Nd} (h : x.Fit) : fitL [x] := fun y hy => by rw [List.mem_singleton.1 hy]; exact h
theorem fit_repN {x : Nd} {m n : Int} (h : x.Fit) (h1 : -1 ≤ m ∧ m ≤ 255) (h2 : -1 ≤ n ∧ n ≤ 255) : (repN m n x).Fit := fit_zero (by omega) (by omega) (by omega) (fo_fit _ (fit_one h))
theorem fit_rep {l : List Nd} {m n : Int} (h : fitL l) (h1 : -1 ≤ m ∧ m ≤ 255) (h2 : -1 ≤ n ∧ n ≤ 255) : fitL (repL l m n) := by
  unfold repL
  cases hx : l.getLast? with
  | none => exact h
  | some x => exact fit_snoc (fun y hy => h y (List.dropLast_subset _ hy)) (fit_repN (h x (List.mem_of_getLast? hx)) h1 h2)
theorem nD_first {l : List Int} (hl : Byt l) {k : Nat} (h : 0 < nD l k) : l.getD k 0 ≠ 45 := by
  unfold nD passN at h
  have h1 := (stopN_is (passB (ofBys l) dgtB true k) ((ofBys l).size - k)).2.1 0 h
  unfold passB at h1
  rw [Nat.add_zero, beq_iff_eq] at h1
  have e : bys dgtB = [48, 49, 50, 51, 52, 53, 54, 55, 56, 57] := by decide
  rw [e] at h1
  unfold inB at h1
  have h2 : atB (ofBys l) k ∈ ([48, 49, 50, 51, 52, 53, 54, 55, 56, 57] : List Int) := by simpa using h1
  unfold atB at h2
  rw [bys_ofBys hl] at h2
  intro h45
  rw [h45] at h2
  simp at h2
theorem numV_fits {l : List Int} (hl : Byt l) {k : Nat} (h : numOk l k = true) : 0 ≤ numV l k ∧ numV l k ≤ 255 := by
  unfold numOk at h
  simp only [Bool.and_eq_true, decide_eq_true_eq] at h
  refine ⟨?_, h.2⟩
  unfold numV wV
  rw [if_pos h.1.1]
  split
  · rename_i h45
    exfalso
    by_cases hn : 0 < nD l k
    · refine nD_first hl hn ?_
      unfold dgs at h45
      rw [List.getD_eq_getElem?_getD, List.getElem?_take, if_pos hn, List.getElem?_drop, Nat.add_zero, ← List.getD_eq_getElem?_getD] at h45
      exact h45
    · unfold dgs at h45
      rw [show nD l k = 0 by omega] at h45
      simp at h45
  · exact valK_nonneg 10 (by decide) _ _ (Nat.le_refl _)
theorem itv_fits {l : List Int} (hl : Byt l) {ext : Bool} {k : Nat} {m n : Int} {k2 : Nat} (h : itv l ext k = some (m, n, k2)) : (-1 ≤ m ∧ m ≤ 255) ∧ (-1 ≤ n ∧ n ≤ 255) := by
  unfold itv at h
  split at h
  · cases h
  rename_i h0
  have a := numV_fits hl (k := k) (by simpa using h0)
  split at h
  · simp only [Option.some.injEq, Prod.mk.injEq] at h; omega
  split at h
  · cases h
  split at h
  · simp only [Option.some.injEq, Prod.mk.injEq] at h; omega
  split at h
  · rename_i h3
    simp only [Bool.and_eq_true] at h3
    have b := numV_fits hl (k := k + nD l k + 1) h3.1.1
    simp only [Option.some.injEq, Prod.mk.injEq] at h; omega
  · cases h
theorem sg_num (cf : ByteArray → (Nat → Bool) × Bool) {l : List Int} (hl : Byt l) (ext : Bool) (k : Nat) : (sg cf l ext k).kd = 1 → (sg cf l ext k).er = none → (-1 ≤ (sg cf l ext k).lo ∧ (sg cf l ext k).lo ≤ 255) ∧ (-1 ≤ (sg cf l ext k).hi ∧ (sg cf l ext k).hi ≤ 255) := by
  apply sg_cases (fun s => s.kd = 1 → s.er = none → (-1 ≤ s.lo ∧ s.lo ≤ 255) ∧ (-1 ≤ s.hi ∧ s.hi ≤ 255))
  case h123 => exact fun m n k2 _ hi _ _ => itv_fits hl hi
  all_goals
    intros
    dsimp only
    omega
theorem sg_nd_fit (cf : ByteArray → (Nat → Bool) × Bool) (l : List Int) (ext : Bool) (k : Nat) : (sg cf l ext k).nd.Fit := by
  apply sg_cases (fun s => s.nd.Fit) <;> intros <;> exact fit_zero (by decide) (by decide) (by decide) trivial
/-- What was read fits. -/
theorem rdR_fit (cf : ByteArray → (Nat → Bool) × Bool) {l : List Int} (hl : Byt l) (ext : Bool) (n : Nat) (md : RM) (k g o : Nat) (t : Nd) (k1 g1 : Nat) (h : rdR cf l ext n md k g o = some (.ok t k1 g1)) (hm : fitL md.list) (hg : g ≤ 9) : t.Fit ∧ g1 ≤ 9 := by
  have key := rdR_ind cf l ext (fun md _ g _ r => fitL md.list → g ≤ 9 → ∀ t k1 g1, r = .ok t k1 g1 → t.Fit ∧ g1 ≤ 9) ?_ ?_ ?_ ?_ ?_ ?_ ?_ ?_ ?_ ?_ ?_ ?_ ?_ ?_ ?_ n md k g o _ h
  · exact key hm hg t k1 g1 rfl
  · intro bs k g o c p _ _ _ t k1 g1 e; cases e
  · intro bs k g o b k1 g1 r h1 _ h2 hm hg t k2 g2 e
    have a := h1 (fun x hx => by cases hx) hg _ _ _ rfl
    exact h2 (fit_snoc hm a.1) a.2 _ _ _ e
  · intro bs k g o b k1 g1 h1 _ hm hg t k2 g2 e
    have a := h1 (fun x hx => by cases hx) hg _ _ _ rfl
    cases e
    exact ⟨fit_join (fit_snoc hm a.1), a.2⟩
  · intro k g o _ _ _ t k1 g1 e; cases e
  · intro items k g o _ _ hm hg t k1 g1 e
    cases e
    exact ⟨fit_join hm, hg⟩
  · intro items k g o r _ _ h2 hm hg t k1 g1 e
    exact h2 (fit_snoc hm (fit_zero (by decide) (by decide) (by decide) trivial)) hg _ _ _ e
  · intro items k g o _ _ _ _ t k1 g1 e; cases e
  · intro items k g o c p _ _ _ _ _ t k1 g1 e; cases e
  · intro items k g o r hk1 _ her h2 hm hg t k1 g1 e
    have a := sg_num cf hl ext k hk1 her
    exact h2 (fit_rep hm a.1 a.2) hg _ _ _ e
  · intro items k g o _ _ _ _ t k1 g1 e; cases e
  · intro items k g o c p _ _ _ _ _ t k1 g1 e; cases e
  · intro items k g o t k1 g1 _ _ _ _ _ _ t' k2 g2 e; cases e
  · intro items k g o t k1 g1 r _ h9 h1 _ h2 hm hg t' k2 g2 e
    have a := h1 (fun x hx => by cases hx) (by omega) _ _ _ rfl
    exact h2 (fit_snoc hm (fit_zero (by decide) (by decide) (by omega) (fo_fit _ (fit_one a.1)))) a.2 _ _ _ e
  · intro items k g o c p _ _ _ _ _ _ t k1 g1 e; cases e
  · intro items k g o r _ _ _ _ _ h2 hm hg t k1 g1 e
    exact h2 (fit_snoc hm (sg_nd_fit cf l ext k)) hg _ _ _ e
/-- What Parse tells fits, and is small. -/
theorem parseN_fit {cf : ByteArray → (Nat → Bool) × Bool} {l : List Int} (hl : Byt l) {ext : Bool} {n : Nat} {t : Nd} {k g : Nat} (h : parseN cf l ext n = some (.ok t k g)) : t.Fit ∧ t.sz ≤ 1026 := by
  obtain ⟨h1, h2, h3, _⟩ := parseN_ok h
  have a := rdR_fit cf hl ext _ _ _ _ _ _ _ _ h2 (fun x hx => by cases hx) (Nat.zero_le _)
  have b := rdR_sz cf l ext _ _ _ _ _ _ _ _ h2 (Nat.zero_le _)
  have z : RM.sz (.re []) = 0 := rfl
  have z2 : RM.ad (.re []) = 2 := rfl
  rw [z, z2] at b
  exact ⟨a.1, by omega⟩
end Go.Proofs.YtcceiblmdjbhjaaGreatDoor
/- The trees that reading tells can be built from (pure). -/
namespace Go.Proofs.YtcceiblmdjbhjaaGreatDoor
open Go.RowKit

theorem Fo.nn_sz : ∀ f : Fo, f.nn = f.sz
  | .nil => rfl
  | .cons _ _ _ _ _ kids rest => by
    show 1 + kids.nn + rest.nn = 1 + kids.sz + rest.sz
    rw [Fo.nn_sz kids, Fo.nn_sz rest]
theorem Nd.nn_sz (n : Nd) : n.nn = n.sz := by unfold Nd.nn Nd.sz; rw [Fo.nn_sz]
def okL (l : List Nd) : Prop := ∀ x ∈ l, x.Ok
theorem fo_ok : ∀ l : List Nd, okL l → (fo l).Ok
  | [], _ => trivial
  | n :: r, h => ⟨(h n (by simp)).1, (h n (by simp)).2, fo_ok r fun x hx => h x (List.mem_cons_of_mem _ hx)⟩
theorem ok_snoc {l : List Nd} {x : Nd} (h : okL l) (hx : x.Ok) : okL (l ++ [x]) := fun y hy => by
  rcases List.mem_append.1 hy with h1 | h1
  · exact h y h1
  · rw [List.mem_singleton.1 h1]; exact hx
theorem ok_one {x : Nd} (h : x.Ok) : okL [x] := fun y hy => by rw [List.mem_singleton.1 hy]; exact h
theorem ok_join {kd : Int} {l : List Nd} (h : okL l) (hl : l ≠ []) (h6 : kd ≠ 6) : (joinN kd l).Ok := by
  unfold joinN
  split
  · exact h _ (by simp)
  · exact ⟨⟨fun _ => by rw [fo_len]; exact List.length_pos_iff.2 hl, fun e => (h6 e).elim⟩, fo_ok _ h⟩
theorem ok_repN {x : Nd} {m n : Int} (h : x.Ok) (h1 : 0 ≤ m ∧ (n = -1 ∨ m ≤ n) ∧ m ≤ 255 ∧ n ≤ 255) : (repN m n x).Ok := ⟨⟨fun e => (by cases e), fun _ => ⟨h1.1, h1.2.1, h1.2.2.1, h1.2.2.2, rfl⟩⟩, fo_ok _ (ok_one h)⟩
theorem ok_rep {l : List Nd} {m n : Int} (h : okL l) (h1 : 0 ≤ m ∧ (n = -1 ∨ m ≤ n) ∧ m ≤ 255 ∧ n ≤ 255) : okL (repL l m n) := by
  unfold repL
  cases hx : l.getLast? with
  | none => exact h
  | some x => exact ok_snoc (fun y hy => h y (List.dropLast_subset _ hy)) (ok_repN (h x (List.mem_of_getLast? hx)) h1)
theorem ok_leaf {kd : Int} {p : Nat → Bool} {mn mx gp : Int} (h5 : kd ≠ 5) (h6 : kd ≠ 6) : Nd.Ok ⟨kd, p, mn, mx, gp, .nil⟩ := ⟨⟨fun e => (h5 e).elim, fun e => (h6 e).elim⟩, trivial⟩
theorem itv_okk {l : List Int} (hl : Byt l) {ext : Bool} {k : Nat} {m n : Int} {k2 : Nat} (h : itv l ext k = some (m, n, k2)) : 0 ≤ m ∧ (n = -1 ∨ m ≤ n) ∧ m ≤ 255 ∧ n ≤ 255 := by
  unfold itv at h
  split at h
  · cases h
  rename_i h0
  have a := numV_fits hl (k := k) (by simpa using h0)
  split at h
  · simp only [Option.some.injEq, Prod.mk.injEq] at h; omega
  split at h
  · cases h
  split at h
  · simp only [Option.some.injEq, Prod.mk.injEq] at h; omega
  split at h
  · rename_i h3
    simp only [Bool.and_eq_true, decide_eq_true_eq] at h3
    have b := numV_fits hl (k := k + nD l k + 1) h3.1.1
    simp only [Option.some.injEq, Prod.mk.injEq] at h; omega
  · cases h
theorem sg_numOk (cf : ByteArray → (Nat → Bool) × Bool) {l : List Int} (hl : Byt l) (ext : Bool) (k : Nat) : (sg cf l ext k).kd = 1 → (sg cf l ext k).er = none → 0 ≤ (sg cf l ext k).lo ∧ ((sg cf l ext k).hi = -1 ∨ (sg cf l ext k).lo ≤ (sg cf l ext k).hi) ∧ (sg cf l ext k).lo ≤ 255 ∧ (sg cf l ext k).hi ≤ 255 := by
  apply sg_cases (fun s => s.kd = 1 → s.er = none → 0 ≤ s.lo ∧ (s.hi = -1 ∨ s.lo ≤ s.hi) ∧ s.lo ≤ 255 ∧ s.hi ≤ 255)
  case h123 => exact fun m n k2 _ hi _ _ => itv_okk hl hi
  all_goals
    intros
    dsimp only
    omega
theorem sg_nd_ok (cf : ByteArray → (Nat → Bool) × Bool) (l : List Int) (ext : Bool) (k : Nat) : (sg cf l ext k).nd.Ok := by
  apply sg_cases (fun s => s.nd.Ok) <;> intros <;> exact ok_leaf (by decide) (by decide)
theorem rdR_okN (cf : ByteArray → (Nat → Bool) × Bool) {l : List Int} (hl : Byt l) (ext : Bool) (n : Nat) (md : RM) (k g o : Nat) (t : Nd) (k1 g1 : Nat) (h : rdR cf l ext n md k g o = some (.ok t k1 g1)) (hm : okL md.list) : t.Ok := by
  have key := rdR_ind cf l ext (fun md _ _ _ r => okL md.list → ∀ t k1 g1, r = .ok t k1 g1 → t.Ok) ?_ ?_ ?_ ?_ ?_ ?_ ?_ ?_ ?_ ?_ ?_ ?_ ?_ ?_ ?_ n md k g o _ h
  · exact key hm t k1 g1 rfl
  · intro bs k g o c p _ _ t k1 g1 e; cases e
  · intro bs k g o b k1 g1 r h1 _ h2 hm t k2 g2 e
    have a := h1 (fun x hx => by cases hx) _ _ _ rfl
    exact h2 (ok_snoc hm a) _ _ _ e
  · intro bs k g o b k1 g1 h1 _ hm t k2 g2 e
    have a := h1 (fun x hx => by cases hx) _ _ _ rfl
    cases e
    exact ok_join (ok_snoc hm a) (by simp) (by decide)
  · intro k g o _ _ t k1 g1 e; cases e
  · intro items k g o _ hne hm t k1 g1 e
    cases e
    exact ok_join hm hne (by decide)
  · intro items k g o r _ _ h2 hm t k1 g1 e
    exact h2 (ok_snoc hm (ok_leaf (by decide) (by decide))) _ _ _ e
  · intro items k g o _ _ _ t k1 g1 e; cases e
  · intro items k g o c p _ _ _ _ t k1 g1 e; cases e
  · intro items k g o r hk1 _ her h2 hm t k1 g1 e
    exact h2 (ok_rep hm (sg_numOk cf hl ext k hk1 her)) _ _ _ e
  · intro items k g o _ _ _ t k1 g1 e; cases e
  · intro items k g o c p _ _ _ _ t k1 g1 e; cases e
  · intro items k g o t k1 g1 _ _ _ _ _ t' k2 g2 e; cases e
  · intro items k g o t k1 g1 r _ h9 h1 _ h2 hm t' k2 g2 e
    have a := h1 (fun x hx => by cases hx) _ _ _ rfl
    exact h2 (ok_snoc hm ⟨⟨fun e => (by cases e), fun e => (by cases e)⟩, fo_ok _ (ok_one a)⟩) _ _ _ e
  · intro items k g o c p _ _ _ _ _ t k1 g1 e; cases e
  · intro items k g o r _ _ _ _ _ h2 hm t k1 g1 e
    exact h2 (ok_snoc hm (sg_nd_ok cf l ext k)) _ _ _ e
/-- What Parse tells can be built from. -/
theorem parseN_okN {cf : ByteArray → (Nat → Bool) × Bool} {l : List Int} (hl : Byt l) {ext : Bool} {n : Nat} {t : Nd} {k g : Nat} (h : parseN cf l ext n = some (.ok t k g)) : t.Ok ∧ t.nn ≤ 1026 ∧ 1 ≤ t.kd := by
  obtain ⟨h1, h2, h3, _⟩ := parseN_ok h
  refine ⟨rdR_okN cf hl ext _ _ _ _ _ _ _ _ h2 (fun x hx => by cases hx), ?_, ?_⟩
  · rw [Nd.nn_sz]; exact (parseN_fit hl h).2
  · exact (rdR_kd cf l ext _ _ _ _ _ _ _ _ h2 (fun x hx => by cases hx) (Nat.zero_le _)).1
end Go.Proofs.YtcceiblmdjbhjaaGreatDoor
/- Rows of bytes as trees: what their automaton accepts (pure). -/
namespace Go.Proofs.YtcceiblmdjbhjaaGreatDoor
open Go.RowKit

def litN (c : Int) : Nd := setN (mem [c])
def litT (s : List Int) : Nd := joinN 4 (s.map litN)
theorem joinM (l : List Int) (L : List Nd) (i j : Nat) : (joinN 4 L).M l i j ↔ (fo L).M l true i j := by
  unfold joinN
  split
  · rename_i x
    show x.M l i j ↔ ∃ k, x.M l i k ∧ k = j
    exact ⟨fun h => ⟨j, h, rfl⟩, fun ⟨k, h, e⟩ => e ▸ h⟩
  · exact Iff.rfl
theorem litM (l : List Int) (c : Int) (i j : Nat) : (litN c).M l i j ↔ j = i + 1 ∧ i < l.length ∧ mem [c] (l.getD i 0).toNat = true := Iff.rfl
theorem litsM {l : List Int} (hl : Byt l) : ∀ (s : List Int), Byt s → ∀ i j, i ≤ l.length → ((fo (s.map litN)).M l true i j ↔ j = i + s.length ∧ j ≤ l.length ∧ (l.drop i).take s.length = s)
  | [], _, i, j, hi => by
    show i = j ↔ _
    simp
    omega
  | c :: s, hs, i, j, hi => by
    have hs' : Byt s := fun k => by have := hs (k + 1); simpa using this
    have hc := hs 0
    simp only [List.getD_cons_zero] at hc
    show (∃ k, (litN c).M l i k ∧ (fo (s.map litN)).M l true k j) ↔ _
    have key : ∀ x : Int, 0 ≤ x → (mem [c] x.toNat = true ↔ x = c) := fun x hx => by
      unfold mem
      rw [decide_eq_true_iff, List.mem_singleton]
      omega
    constructor
    · rintro ⟨k, hk, h⟩
      obtain ⟨rfl, hlt, hm⟩ := (litM l c i k).1 hk
      obtain ⟨h1, h2, h3⟩ := (litsM hl s hs' (i + 1) j hlt).1 h
      rw [key _ (hl i).1] at hm
      refine ⟨by rw [h1, List.length_cons]; omega, h2, ?_⟩
      rw [List.drop_eq_getElem_cons hlt, List.length_cons, List.take_succ_cons, h3]
      rw [List.getD_eq_getElem?_getD, List.getElem?_eq_getElem hlt] at hm
      rw [← hm]
      rfl
    · rintro ⟨h1, h2, h3⟩
      rw [List.length_cons] at h1
      have hlt : i < l.length := by omega
      rw [List.drop_eq_getElem_cons hlt, List.length_cons, List.take_succ_cons] at h3
      obtain ⟨h4, h5⟩ := List.cons.inj h3
      refine ⟨i + 1, (litM l c i _).2 ⟨rfl, hlt, ?_⟩, (litsM hl s hs' (i + 1) j hlt).2 ⟨by omega, h2, h5⟩⟩
      rw [key _ (hl i).1, List.getD_eq_getElem?_getD, List.getElem?_eq_getElem hlt]
      exact h4
theorem litL_ok (s : List Int) : okL (s.map litN) := fun x hx => by
  obtain ⟨c, _, rfl⟩ := List.mem_map.1 hx
  exact ok_leaf (by decide) (by decide)
theorem litT_ok {s : List Int} (hs : s ≠ []) : (litT s).Ok := ok_join (litL_ok s) (by simpa using hs) (by decide)
theorem lit_acc {l s : List Int} (hl : Byt l) (hb : Byt s) (hs : s ≠ []) : accF (litT s).G l = decide (l = s) := by
  rw [Bool.eq_iff_iff, accF_iff _ (litT_ok hs), decide_eq_true_iff]
  unfold litT
  rw [joinM, litsM hl s hb 0 l.length (Nat.zero_le _), List.drop_zero]
  constructor
  · rintro ⟨h1, _, h3⟩
    rw [← h3, List.take_of_length_le (by omega)]
  · rintro rfl
    exact ⟨by omega, Nat.le_refl _, by rw [List.take_length]⟩
theorem litL_w : ∀ s : List Int, (fo (s.map litN)).W = s.length
  | [] => rfl
  | c :: s => by
    have := litL_w s
    show 1 + (fo (s.map litN)).W = s.length + 1
    omega
theorem litT_w (s : List Int) : (litT s).W = s.length := by
  have h := litL_w s
  unfold litT joinN
  split
  · rename_i x e
    rw [e] at h
    have e2 : (fo [x]).W = x.W := Nat.add_zero _
    omega
  · exact h
end Go.Proofs.YtcceiblmdjbhjaaGreatDoor
/- What is quoted, read again, is itself (pure). -/
namespace Go.Proofs.YtcceiblmdjbhjaaGreatDoor
open Go.RowKit

def quo1 (ext : Bool) (c : Int) : List Int := if c = 10 then [92, 110] else if mayQ c ext = true then [92, c] else [c]
def quoR (ext : Bool) (l : List Int) : List Int := (l.map (quo1 ext)).flatten
theorem quoR_cons (ext : Bool) (c : Int) (l : List Int) : quoR ext (c :: l) = quo1 ext c ++ quoR ext l := rfl
theorem quo1_pos (ext : Bool) (c : Int) : 1 ≤ (quo1 ext c).length := by unfold quo1; (repeat' split) <;> simp
theorem mayQ_all {c : Int} {ext : Bool} (h : mayQ c ext = false) : c ≠ 92 ∧ c ≠ 46 ∧ c ≠ 91 ∧ c ≠ 94 ∧ c ≠ 36 ∧ c ≠ 42 ∧ (ext = true → c ≠ 40 ∧ c ≠ 41 ∧ c ≠ 123 ∧ c ≠ 43 ∧ c ≠ 63 ∧ c ≠ 124) := by
  unfold mayQ at h
  split at h
  · rename_i hc
    subst h
    refine ⟨?_, ?_, ?_, ?_, ?_, ?_, fun h => by cases h⟩ <;> omega
  · rename_i hc
    simp only [decide_eq_false_iff_not] at h
    refine ⟨?_, ?_, ?_, ?_, ?_, ?_, fun _ => ⟨?_, ?_, ?_, ?_, ?_, ?_⟩⟩ <;> omega
theorem getD_drop (l : List Int) (k i : Nat) : l.getD (k + i) 0 = (l.drop k).getD i 0 := by simp [List.getD, List.getElem?_drop]
/-- The sign where a quoted byte stands. -/
theorem sgT_quo {l : List Int} {k : Nat} {ext : Bool} {c : Int} {r : List Int} (h : l.drop k = quo1 ext c ++ r) : sgT l k = quo1 ext c := by
  have hp := quo1_pos ext c
  have hl := congrArg List.length h
  rw [List.length_drop, List.length_append] at hl
  have h0 : l.getD k 0 = (l.drop k).getD 0 0 := by rw [← getD_drop]; rfl
  have h1 : l.getD (k + 1) 0 = (l.drop k).getD 1 0 := getD_drop l k 1
  rw [h] at h0 h1
  unfold sgT
  rw [if_pos (by omega), h0, h1]
  unfold quo1 at *
  by_cases hc : c = 10
  · rw [if_pos hc] at *
    simp at hl ⊢
    omega
  · rw [if_neg hc] at *
    by_cases hm : mayQ c ext = true
    · rw [if_pos hm] at *
      simp at hl ⊢
      omega
    · rw [if_neg hm] at *
      have := (mayQ_all (by simpa using hm)).1
      simp [this]
theorem role_quo (ext : Bool) (c : Int) : roleC (quo1 ext c) ext = 0 := by
  unfold quo1
  by_cases hc : c = 10
  · rw [if_pos hc]
    cases ext <;> decide
  · rw [if_neg hc]
    by_cases hm : mayQ c ext = true
    · rw [if_pos hm]
      unfold roleC
      rw [if_neg (by simp)]
      cases ext with
      | true => split <;> simp
      | false =>
        have hno : ¬ (c = 40 ∨ c = 41 ∨ c = 123) := fun h => by
          unfold mayQ at hm
          rw [if_pos (by omega)] at hm
          cases hm
        rw [if_neg (by simp; omega)]
        simp
    · rw [if_neg hm]
      have a := mayQ_all (by simpa using hm)
      unfold roleC
      rw [if_neg (by simp), if_neg (by simp)]
      cases ext with
      | true =>
        have b := a.2.2.2.2.2.2 rfl
        rw [if_neg (by simp; omega), if_neg (by simp; omega)]
      | false =>
        split
        · rfl
        · rw [if_neg (by simp; omega)]
theorem lit_quo (ext : Bool) (c : Int) : litR (quo1 ext c) ext = .byt c := by
  unfold quo1
  by_cases hc : c = 10
  · rw [if_pos hc, hc]
    rfl
  · rw [if_neg hc]
    by_cases hm : mayQ c ext = true
    · rw [if_pos hm]
      unfold litR
      have h110 : c ≠ 110 := fun h => by rw [h] at hm; cases ext <;> cases hm
      have h125 : ¬ (c = 125 ∧ ext = false) := fun h => by rw [h.1, h.2] at hm; cases hm
      simp [h110, hm]
      intro h1
      cases ext with
      | true => rfl
      | false => exact absurd ⟨h1, rfl⟩ h125
    · rw [if_neg hm]
      have a := mayQ_all (by simpa using hm)
      unfold litR
      simp [a.1]
theorem sg_quo (cf : ByteArray → (Nat → Bool) × Bool) {l : List Int} {k : Nat} {ext : Bool} {c : Int} {r : List Int} (h : l.drop k = quo1 ext c ++ r) : sg cf l ext k = ⟨0, quo1 ext c, setN (mem [c]), 0, 0, none, k + (quo1 ext c).length⟩ := by
  unfold sg sgR
  rw [sgT_quo h, role_quo, if_pos rfl, lit_quo]
theorem byt_quo (ext : Bool) (c : Int) (s : Sg) (h : s.tx = quo1 ext c) (nk : Nat) (items : List Nd) : isByt ext s nk items = false := by
  unfold isByt
  cases ext with
  | true => rfl
  | false =>
    rw [if_neg (by simp), h]
    unfold quo1
    by_cases hc : c = 10
    · rw [if_pos hc]; simp
    · rw [if_neg hc]
      by_cases hm : mayQ c false = true
      · rw [if_pos hm]; simp
      · rw [if_neg hm]
        have a := mayQ_all (by simpa using hm)
        simp [a.2.2.2.1, a.2.2.2.2.1, a.2.2.2.2.2.1]
theorem rdR_quo (cf : ByteArray → (Nat → Bool) × Bool) (l : List Int) (ext : Bool) (g o : Nat) : ∀ (s : List Int) (n : Nat) (items : List Nd) (k : Nat), l.drop k = quoR ext s → k ≤ l.length → s.length + 1 ≤ n → (items ≠ [] ∨ s ≠ []) → rdR cf l ext n (.br items) k g o = some (.ok (joinN 4 (items ++ s.map fun c => setN (mem [c]))) l.length g)
  | [], n, items, k, h, hk, hn, hne => by
    obtain ⟨m, rfl⟩ : ∃ m, n = m + 1 := ⟨n - 1, by simp at hn; omega⟩
    have hl := congrArg List.length h
    rw [List.length_drop] at hl
    have hke : k = l.length := by simp [quoR] at hl; omega
    subst hke
    rw [rdR_br, sg_end cf l ext l.length (by omega), if_pos (by rfl), if_neg (by simpa using hne)]
    simp
  | c :: s, n, items, k, h, hk, hn, _ => by
    obtain ⟨m, rfl⟩ : ∃ m, n = m + 1 := ⟨n - 1, by simp at hn; omega⟩
    rw [quoR_cons] at h
    have hs := sg_quo cf h
    have hl := congrArg List.length h
    rw [List.length_drop, List.length_append] at hl
    have hp := quo1_pos ext c
    have hd : l.drop (k + (quo1 ext c).length) = quoR ext s := by
      rw [← List.drop_drop, h, List.drop_left]
    have ih := rdR_quo cf l ext g o s m (items ++ [setN (mem [c])]) (k + (quo1 ext c).length) hd (by omega) (by simp at hn; omega) (Or.inl (by simp))
    rw [rdR_br, byt_quo ext c _ (by rw [hs]), hs]
    rw [if_neg (by simp [endsB]), if_neg (by simp), if_neg (by simp), if_neg (by simp)]
    dsimp only
    rw [ih, List.map_cons, List.append_assoc]
    rfl
theorem parse_quo (cf : ByteArray → (Nat → Bool) × Bool) (ext : Bool) (s : List Int) (hs : s ≠ []) (hl : (quoR ext s).length ≤ 256) : ∃ k, parseN cf (quoR ext s) ext (fuelR (quoR ext s)) = some (.ok (joinN 4 (s.map fun c => setN (mem [c]))) k 0) := by
  have hlen : s.length ≤ (quoR ext s).length := by
    clear hs hl
    induction s with
    | nil => simp
    | cons c s ih =>
      rw [quoR_cons, List.length_append, List.length_cons]
      have := quo1_pos ext c
      omega
  have h := rdR_quo cf (quoR ext s) ext 0 0 s (2 * (quoR ext s).length + 1) [] 0 (by simp) (Nat.zero_le _) (by omega) (Or.inr hs)
  refine ⟨(quoR ext s).length, ?_⟩
  unfold parseN fuelR
  rw [if_neg (by omega), rdR_re, h]
  dsimp only
  rw [sg_end cf _ ext _ (Nat.lt_irrefl _), if_neg (by decide)]
  dsimp only
  rw [sg_end cf _ ext _ (Nat.lt_irrefl _), if_pos rfl]
  rfl
end Go.Proofs.YtcceiblmdjbhjaaGreatDoor
/- The contract of Quote (gen_reqt.py). -/
namespace Go.Proofs.YtcceiblmdjbhjaaGreatDoor
open Go.RowKit

theorem quoR_app (ext : Bool) (a b : List Int) : quoR ext (a ++ b) = quoR ext a ++ quoR ext b := by unfold quoR; rw [List.map_append, List.flatten_append]
theorem quoR_one (ext : Bool) (c : Int) : quoR ext [c] = quo1 ext c := by unfold quoR; simp
theorem quo1_le (ext : Bool) (c : Int) : (quo1 ext c).length ≤ 2 := by unfold quo1; (repeat' split) <;> simp
theorem quoR_len (ext : Bool) : ∀ l : List Int, (quoR ext l).length ≤ 2 * l.length
  | [] => by simp [quoR]
  | c :: l => by
    have h1 := quoR_len ext l
    have h2 := quo1_le ext c
    rw [quoR_cons, List.length_append, List.length_cons]
    omega
theorem quoR_byt {l : List Int} (h : Byt l) (ext : Bool) : Byt (quoR ext l) := by
  apply byt_ofR
  intro c hc
  unfold quoR at hc
  rw [List.mem_flatten] at hc
  obtain ⟨x, hx, hcx⟩ := hc
  rw [List.mem_map] at hx
  obtain ⟨d, hd, rfl⟩ := hx
  have hb : 0 ≤ d ∧ d ≤ 255 := by
    obtain ⟨i, hi, rfl⟩ := List.getElem_of_mem hd
    have := h i
    rw [List.getD_eq_getElem?_getD, List.getElem?_eq_getElem hi] at this
    exact this
  unfold quo1 at hcx
  split at hcx
  · simp at hcx; omega
  split at hcx
  · simp at hcx; omega
  · simp at hcx; omega
theorem take_nextR (s : ByteArray) (k : Nat) (h : k < s.size) : (bys s).take (k + 1) = (bys s).take k ++ [(s[k].toNat : Int)] := by
  have hl : k < (bys s).length := by rw [bys_length]; exact h
  rw [List.take_succ_eq_append_getElem hl]
  congr 2
  have := bys_getD s k h
  rwa [List.getD_eq_getElem?_getD, List.getElem?_eq_getElem hl, Option.getD_some] at this
/-- The loop's state. -/
structure QrI (w : World) (s : ByteArray) (ext : Bool) (k : Nat) (v : Value) (X : World) : Prop where
  hk : k ≤ s.size
  bel : Below w.heap.size w X
  own : X.ownsRow w.heap.size 5 1 v (quoR ext ((bys s).take k)).length ((quoR ext ((bys s).take k)).map (Value.int .u8))

set_option maxRecDepth 100000 in
set_option maxHeartbeats 8000000 in
theorem rquote_any (s : ByteArray) (ext : Bool) (w : World) (hs : s.size ≤ 1048576) :
    Calls Tryz.prog 27 #[.string s, .bool ext] w fun e w' => e = .returned (.string (ofBys (quoR ext (bys s)))) ∧ Below w.heap.size w w' := by
  obtain ⟨i0, hi, hz0, hz1, hz2⟩ := info_parts byte_row
  have HI0 : Hid (QrI w s ext 0 (.slice none 0 0) w) := Lib.hid ⟨Nat.zero_le _, Below.refl _ _, World.ownsRow_nil _ _ _ _⟩
  have HI := Lib.hid hi
  have HZ0 := Lib.hid hz0
  have HZ1 := Lib.hid hz1
  have HZ2 := Lib.hid hz2
  clear hi hz0 hz1 hz2
  go_enter Tryz.func27, Tryz.ntmps27
  go_wp2_with fail
  go_loopg [5, 10] s.size (fun g v i X => ∃ k : Nat, g = s.size - k ∧ i = .int .i64 k ∧ Aside (QrI w s ext k v X))
  case atStart => exact ⟨0, by omega, rfl, HI0.out⟩
  case round =>
    obtain ⟨k, rfl, rfl, hal⟩ := hrel
    have hI := hal.out
    have hk := hI.hk
    have hql := quoR_len ext ((bys s).take k)
    rw [List.length_take, bys_length] at hql
    obtain ⟨a0, cap0, hv0⟩ := own_shapeT hI.own
    subst hv0
    have HQ := Lib.hid hI
    have hws := hI.bel.size
    by_cases hlt : k < s.size
    · have hkI : (k : Int) < (s.size : Int) := by omega
      have HTN : Hid (quoR ext ((bys s).take (k + 1)) = quoR ext ((bys s).take k) ++ quo1 ext (s[k].toNat : Int)) := Lib.hid (by rw [take_nextR s k hlt, quoR_app, quoR_one])
      have hc256 : s[k].toNat < 256 := s[k].toNat_lt
      obtain ⟨c, hc⟩ : ∃ c, c = s[k].toNat := ⟨_, rfl⟩
      have HCC := Lib.hid hc
      rw [← hc] at HTN hc256
      clear hc
      have hat : s[k].toNat = c := HCC.out.symm
      obtain ⟨xs, hxs⟩ : ∃ xs, xs = (quoR ext ((bys s).take k)).map (Value.int .u8) := ⟨_, rfl⟩
      obtain ⟨nq, hnq⟩ : ∃ nq, nq = (quoR ext ((bys s).take k)).length := ⟨_, rfl⟩
      have hqb : nq ≤ 2097152 := by omega
      have HO : Hid (wr.ownsRow w.heap.size 5 1 (.slice a0 nq cap0) nq xs) := Lib.hid (by rw [hxs, hnq]; exact hI.own)
      have HXS := Lib.hid hxs
      have HNQ := Lib.hid hnq
      rw [← hnq]
      clear hal hI hql hxs hnq
      have hcw : ∀ X, (Instr.index 9 (.string s) (.int .i64 (k : Nat))).run Tryz.prog X = .ok (.int .u8 (c : Nat)) X := fun X => by rw [← hat]; simp [go_sem, hkI]
      have HFIN : Hid (∀ (q : List Int) (X X' : World) (v' : Value), quo1 ext (c : Int) = q → Below w.heap.size w X → X.grownBy X' (Value.slice a0 nq cap0).ownBlock → X'.ownsRow w.heap.size 5 1 v' (nq + q.length) (xs ++ q.map (Value.int .u8)) → QrI w s ext (k + 1) v' X') := Lib.hid (fun q X X' v' hq hX hg ho => ⟨by omega, hX.grown hg hX.size (fun j hj => (own_ltB HO.out hj).1), by
        rw [HTN.out, hq, List.length_append, List.map_append, ← HXS.out, ← HNQ.out]
        exact ho⟩)
      by_cases h10 : c = 10
      · have HQ1 : Hid (quo1 ext (c : Int) = [92, 110]) := Lib.hid (by unfold quo1; rw [if_pos (by omega)])
        have e10 : ((c : Int) == 10) = true := by simp; omega
        clear hat
        go_wp2_with (at_builtin; refine Lib.wpList_append_own_string _ rfl _ _ 22 9 rfl w.heap.size 5 i0 Tryz.underlying22 Tryz.underlying9 HI.out HZ0.out HZ1.out HZ2.out (.slice a0 nq cap0) nq xs rfl HO.out ⟨#[92, 110]⟩ rfl ?c3 ?c4 ?c5 ?_)
        case c3 => (unfold maxLen; first | omega | (simp [ByteArray.size]; omega))
        case c4 => first | omega | (simp [ByteArray.size]; omega)
        case c5 => exact hws
        intro v' w2 hown' hgr _
        have HN : Hid (QrI w s ext (k + 1) v' w2) := Lib.hid (HFIN.out _ wr w2 v' HQ1.out HQ.out.bel hgr hown')
        clear hown' hgr
        go_wp2_with fail
        go_roundg (s.size - (k + 1))
        case measure => omega
        case rel => exact ⟨k + 1, rfl, by simp, HN.out⟩
      · have e10 : ((c : Int) == 10) = false := by simp; omega
        have HM := Lib.hid (mayQ_any (c : Int) ext)
        cases hm : mayQ (c : Int) ext with
        | true =>
          rw [hm] at HM
          have HQ1 : Hid (quo1 ext (c : Int) = [92, (c : Int)]) := Lib.hid (by unfold quo1; rw [if_neg (by omega), if_pos hm])
          clear hat hm
          go_wp2_with fail
          refine (HM.out _).mono ?_
          rintro x w1 ⟨rfl, rfl⟩
          have HB1 : Hid (Below w.heap.size w (w1.alloc (.cells #[.int .u8 92, .int .u8 (c : Int)] 5))) := Lib.hid (HQ.out.bel.alloc hws _)
          have HN1 : Hid ((w1.alloc (.cells #[.int .u8 92, .int .u8 (c : Int)] 5)).heap[w1.heap.size]? = some (.cells #[.int .u8 92, .int .u8 (c : Int)] 5 (0, 0))) := Lib.hid (alloc_last w1 _)
          go_wp2_with (at_builtin; refine wpList_append_own _ rfl _ _ 22 rfl w.heap.size 5 i0 (.int .u8 0) 1 1 Tryz.underlying22 HI.out HZ0.out HZ1.out HZ2.out rfl (by decide) (.slice a0 nq cap0) nq xs rfl (HO.out.alloc _) ⟨w1.heap.size, 0, none⟩ 2 2 [.int .u8 92, .int .u8 (c : Int)] rfl rfl ?c1 ?c2 ?c3 ?c4 ?c5 ?_)
          case c1 => (intro j u hj; rw [addz]; rw [Lib.cell_of_heap HN1.out]; simpa using hj)
          case c2 => (intro u hu; simp at hu; first | (subst hu; rfl) | (rcases hu with rfl | rfl <;> rfl))
          case c3 => (unfold maxLen; omega)
          case c4 => omega
          case c5 => (simp; omega)
          intro v' w4 hown' hgr _
          have HN : Hid (QrI w s ext (k + 1) v' w4) := Lib.hid (HFIN.out _ _ w4 v' HQ1.out HB1.out hgr hown')
          clear hown' hgr
          go_wp2_with fail
          go_roundg (s.size - (k + 1))
          case measure => omega
          case rel => exact ⟨k + 1, rfl, by simp, HN.out⟩
        | false =>
          rw [hm] at HM
          have HQ1 : Hid (quo1 ext (c : Int) = [(c : Int)]) := Lib.hid (by unfold quo1; rw [if_neg (by omega), if_neg (by rw [hm]; decide)])
          clear hat hm
          go_wp2_with fail
          refine (HM.out _).mono ?_
          rintro x w1 ⟨rfl, rfl⟩
          have HB1 : Hid (Below w.heap.size w (w1.alloc (.cells #[.int .u8 (c : Int)] 5))) := Lib.hid (HQ.out.bel.alloc hws _)
          have HN1 : Hid ((w1.alloc (.cells #[.int .u8 (c : Int)] 5)).heap[w1.heap.size]? = some (.cells #[.int .u8 (c : Int)] 5 (0, 0))) := Lib.hid (alloc_last w1 _)
          go_wp2_with (at_builtin; refine wpList_append_own _ rfl _ _ 22 rfl w.heap.size 5 i0 (.int .u8 0) 1 1 Tryz.underlying22 HI.out HZ0.out HZ1.out HZ2.out rfl (by decide) (.slice a0 nq cap0) nq xs rfl (HO.out.alloc _) ⟨w1.heap.size, 0, none⟩ 1 1 [.int .u8 (c : Int)] rfl rfl ?c1 ?c2 ?c3 ?c4 ?c5 ?_)
          case c1 => (intro j u hj; rw [addz]; rw [Lib.cell_of_heap HN1.out]; simpa using hj)
          case c2 => (intro u hu; simp at hu; first | (subst hu; rfl) | (rcases hu with rfl | rfl <;> rfl))
          case c3 => (unfold maxLen; omega)
          case c4 => omega
          case c5 => (simp; omega)
          intro v' w4 hown' hgr _
          have HN : Hid (QrI w s ext (k + 1) v' w4) := Lib.hid (HFIN.out _ _ w4 v' HQ1.out HB1.out hgr hown')
          clear hown' hgr
          go_wp2_with fail
          go_roundg (s.size - (k + 1))
          case measure => omega
          case rel => exact ⟨k + 1, rfl, by simp, HN.out⟩
    · have hke : k = s.size := by omega
      have HQE : Hid (quoR ext ((bys s).take k) = quoR ext (bys s)) := Lib.hid (by rw [List.take_of_length_le (by rw [bys_length]; omega)])
      have hlen2 : (quoR ext ((bys s).take k)).length ≤ 9223372036854775807 := by omega
      have HSL : Hid (Sl wr (.slice a0 (quoR ext ((bys s).take k)).length cap0) (quoR ext ((bys s).take k))) := Lib.hid (slOwnedM HQ.out.own (by rw [HQE.out]; exact quoR_byt (bys_byt s) ext) hlen2)
      have hcv := conv_string HSL.out
      have hnk : ¬ (k : Int) < (s.size : Int) := by omega
      clear hke hal hI hql hlen2
      go_wp2
      go_ret
      exact ⟨by rw [← HQE.out]; rfl, HQ.out.bel⟩
end Go.Proofs.YtcceiblmdjbhjaaGreatDoor
