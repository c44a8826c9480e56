import Derived.Test.YtnecadgoiolpgaaGreatDoorKNw
import Derived.Test.YtnecadgoiolpgaaGreatDoorKTb
namespace Go.Proofs.YtnecadgoiolpgaaGreatDoor
open Go.RowKit
theorem Fo.nn_sz : ∀ f : Fo, f.nn = f.sz
 | .nil => rfl
 | .cons _ _ _ _ _ kids rest => by
  show 1 + kids.nn + rest.nn = 1 + kids.sz + rest.sz
  rw [Fo.nn_sz kids, Fo.nn_sz rest]
theorem Nd.nn_sz (n : Nd) : n.nn = n.sz := by unfold Nd.nn Nd.sz; rw [Fo.nn_sz]
def okL (l : List Nd) : Prop := ∀ x ∈ l, x.Ok
theorem fo_ok : ∀ l : List Nd, okL l → (fo l).Ok
 | [], _ => trivial
 | n :: r, h => ⟨(h n (by simp)).1, (h n (by simp)).2, fo_ok r fun x hx => h x (List.mem_cons_of_mem _ hx)⟩
theorem ok_snoc {l : List Nd} {x : Nd} (h : okL l) (hx : x.Ok) : okL (l ++ [x]) := fun y hy => by
 rcases List.mem_append.1 hy with h1 | h1
 ·exact h y h1
 ·rw [List.mem_singleton.1 h1]; exact hx
theorem ok_one {x : Nd} (h : x.Ok) : okL [x] := fun y hy => by rw [List.mem_singleton.1 hy]; exact h
theorem ok_join {kd : Int} {l : List Nd} (h : okL l) (hl : l ≠ []) (h6 : kd ≠ 6) : (joinN kd l).Ok := by
 unfold joinN
 split
 ·exact h _ (by simp)
 ·exact ⟨⟨fun _ => by rw [fo_len]; exact List.length_pos_iff.2 hl, fun e => (h6 e).elim⟩, fo_ok _ h⟩
theorem ok_repN {x : Nd} {m n : Int} (h : x.Ok) (h1 : 0 ≤ m ∧ (n = -1 ∨ m ≤ n) ∧ m ≤ 255 ∧ n ≤ 255) : (repN m n x).Ok := ⟨⟨fun e => (by cases e), fun _ => ⟨h1.1, h1.2.1, h1.2.2.1, h1.2.2.2, rfl⟩⟩, fo_ok _ (ok_one h)⟩
theorem ok_rep {l : List Nd} {m n : Int} (h : okL l) (h1 : 0 ≤ m ∧ (n = -1 ∨ m ≤ n) ∧ m ≤ 255 ∧ n ≤ 255) : okL (repL l m n) := by
 unfold repL
 cases hx : l.getLast? with
 | none => exact h
 | some x => exact ok_snoc (fun y hy => h y (List.dropLast_subset _ hy)) (ok_repN (h x (List.mem_of_getLast? hx)) h1)
theorem ok_leaf {kd : Int} {p : Nat → Bool} {mn mx gp : Int} (h5 : kd ≠ 5) (h6 : kd ≠ 6) : Nd.Ok ⟨kd, p, mn, mx, gp, .nil⟩ := ⟨⟨fun e => (h5 e).elim, fun e => (h6 e).elim⟩, trivial⟩
theorem itv_okk {l : List Int} (hl : Byt l) {ext : Bool} {k : Nat} {m n : Int} {k2 : Nat} (h : itv l ext k = some (m, n, k2)) : 0 ≤ m ∧ (n = -1 ∨ m ≤ n) ∧ m ≤ 255 ∧ n ≤ 255 := by
 unfold itv at h
 split at h
 ·cases h
 rename_i h0
 have a := numV_fits hl (k := k) (by simpa using h0)
 split at h
 ·simp only [Option.some.injEq, Prod.mk.injEq] at h; omega
 split at h
 ·cases h
 split at h
 ·simp only [Option.some.injEq, Prod.mk.injEq] at h; omega
 split at h
 ·rename_i h3
  simp only [Bool.and_eq_true, decide_eq_true_eq] at h3
  have b := numV_fits hl (k := k + nD l k + 1) h3.1.1
  simp only [Option.some.injEq, Prod.mk.injEq] at h; omega
 ·cases h
theorem sg_numOk (cf : ByteArray → (Nat → Bool) × Bool) {l : List Int} (hl : Byt l) (ext : Bool) (k : Nat) : (sg cf l ext k).kd = 1 → (sg cf l ext k).er = none → 0 ≤ (sg cf l ext k).lo ∧ ((sg cf l ext k).hi = -1 ∨ (sg cf l ext k).lo ≤ (sg cf l ext k).hi) ∧ (sg cf l ext k).lo ≤ 255 ∧ (sg cf l ext k).hi ≤ 255 := by
 apply sg_cases (fun s => s.kd = 1 → s.er = none → 0 ≤ s.lo ∧ (s.hi = -1 ∨ s.lo ≤ s.hi) ∧ s.lo ≤ 255 ∧ s.hi ≤ 255)
 case h123 => exact fun m n k2 _ hi _ _ => itv_okk hl hi
 all_goals
  intros
  dsimp only
  omega
theorem sg_nd_ok (cf : ByteArray → (Nat → Bool) × Bool) (l : List Int) (ext : Bool) (k : Nat) : (sg cf l ext k).nd.Ok := by
 apply sg_cases (fun s => s.nd.Ok) <;> intros <;> exact ok_leaf (by decide) (by decide)
theorem rdR_okN (cf : ByteArray → (Nat → Bool) × Bool) {l : List Int} (hl : Byt l) (ext : Bool) (n : Nat) (md : RM) (k g o : Nat) (t : Nd) (k1 g1 : Nat) (h : rdR cf l ext n md k g o = some (.ok t k1 g1)) (hm : okL md.list) : t.Ok := by
 have key := rdR_ind cf l ext (fun md _ _ _ r => okL md.list → ∀ t k1 g1, r = .ok t k1 g1 → t.Ok) ?_ ?_ ?_ ?_ ?_ ?_ ?_ ?_ ?_ ?_ ?_ ?_ ?_ ?_ ?_ n md k g o _ h
 ·exact key hm t k1 g1 rfl
 ·intro bs k g o c p _ _ t k1 g1 e; cases e
 ·intro bs k g o b k1 g1 r h1 _ h2 hm t k2 g2 e
  have a := h1 (fun x hx => by cases hx) _ _ _ rfl
  exact h2 (ok_snoc hm a) _ _ _ e
 ·intro bs k g o b k1 g1 h1 _ hm t k2 g2 e
  have a := h1 (fun x hx => by cases hx) _ _ _ rfl
  cases e
  exact ok_join (ok_snoc hm a) (by simp) (by decide)
 ·intro k g o _ _ t k1 g1 e; cases e
 ·intro items k g o _ hne hm t k1 g1 e
  cases e
  exact ok_join hm hne (by decide)
 ·intro items k g o r _ _ h2 hm t k1 g1 e
  exact h2 (ok_snoc hm (ok_leaf (by decide) (by decide))) _ _ _ e
 ·intro items k g o _ _ _ t k1 g1 e; cases e
 ·intro items k g o c p _ _ _ _ t k1 g1 e; cases e
 ·intro items k g o r hk1 _ her h2 hm t k1 g1 e
  exact h2 (ok_rep hm (sg_numOk cf hl ext k hk1 her)) _ _ _ e
 ·intro items k g o _ _ _ t k1 g1 e; cases e
 ·intro items k g o c p _ _ _ _ t k1 g1 e; cases e
 ·intro items k g o t k1 g1 _ _ _ _ _ t' k2 g2 e; cases e
 ·intro items k g o t k1 g1 r _ h9 h1 _ h2 hm t' k2 g2 e
  have a := h1 (fun x hx => by cases hx) _ _ _ rfl
  exact h2 (ok_snoc hm ⟨⟨fun e => (by cases e), fun e => (by cases e)⟩, fo_ok _ (ok_one a)⟩) _ _ _ e
 ·intro items k g o c p _ _ _ _ _ t k1 g1 e; cases e
 ·intro items k g o r _ _ _ _ _ h2 hm t k1 g1 e
  exact h2 (ok_snoc hm (sg_nd_ok cf l ext k)) _ _ _ e
theorem parseN_okN {cf : ByteArray → (Nat → Bool) × Bool} {l : List Int} (hl : Byt l) {ext : Bool} {n : Nat} {t : Nd} {k g : Nat} (h : parseN cf l ext n = some (.ok t k g)) : t.Ok ∧ t.nn ≤ 1026 ∧ 1 ≤ t.kd := by
 obtain ⟨h1, h2, h3, _⟩ := parseN_ok h
 refine ⟨rdR_okN cf hl ext _ _ _ _ _ _ _ _ h2 (fun x hx => by cases hx), ?_, ?_⟩
 ·rw [Nd.nn_sz]; exact (parseN_fit hl h).2
 ·exact (rdR_kd cf l ext _ _ _ _ _ _ _ _ h2 (fun x hx => by cases hx) (Nat.zero_le _)).1
end Go.Proofs.YtnecadgoiolpgaaGreatDoor
