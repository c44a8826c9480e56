/- KGt: several texts in one (kmerge.py). -/
import Derived.Test.YtcceiblmdjbhjaaGreatDoorKTb
import Derived.Test.YtcceiblmdjbhjaaGreatDoorKNw
import Derived.Test.YtcceiblmdjbhjaaGreatDoorNfAw
namespace Go.Proofs.YtcceiblmdjbhjaaGreatDoor
open Go.RowKit
theorem conv_sl (w : World) (s : ByteArray) (hs : s.size ≤ 9223372036854775807) : ∃ cap W1, (convert 9 22 (.string s)).run Tryz.prog w = .ok (.slice (some ⟨w.heap.size, 0, none⟩) s.size cap) W1 ∧ Sl W1 (.slice (some ⟨w.heap.size, 0, none⟩) s.size cap) (bys s) ∧ Below w.heap.size w W1 := by
  refine ⟨_, _, run_bytes_of_string (P := Tryz.prog) w 9 22 5 s Tryz.underlying9 Tryz.underlying22 Tryz.underlying5, ?_, ?_⟩
  · have hm := grownCap_le_maxLen w s.size 0 5 (by unfold maxLen; omega)
    unfold maxLen at hm
    refine ⟨bys_byt s, by rw [bys_length]; exact hs, Or.inr ⟨w.heap.size, 0, _, by rw [bys_length], by rw [bys_length]; exact grownCap_ge _ _ _ _, by omega, fun i hi => ?_⟩⟩
    rw [bys_length] at hi
    rw [Nat.zero_add, bys_getD s i hi]
    show (w.drew.alloc _).cell? ⟨w.drew.heap.size, i, none⟩ = _
    rw [World.cell?_alloc_mark]
    exact bytesRow_at s _ i (by simpa using hi)
  · exact (Below.refl _ _).drew.alloc (Nat.le_refl _) _
theorem accN_acc {l : List Int} {F : Nat → Prop} {G : List St} {k x i : Nat} (e : G[x]? = some .acc) : AccN l F G (k + 1) x i ↔ F i := by
  conv => lhs; unfold AccN
  simp only [e]

/-- The automaton of a tree: an end is reached just behind what the tree matches. -/
theorem Nd.acc_iff (l : List Int) (F : Nat → Prop) (n : Nd) (h : n.Ok) (i : Nat) : (∃ k, AccN l F n.G.1 k n.G.2 i) ↔ ∃ j, n.M l i j ∧ F j := by
  have hg := Nd.good l F n h [.acc] 0 (by simp)
  have h0 : n.G.1[0]? = some .acc := (pre_at hg.pre (by simp)).trans rfl
  have ha : AgrS n.G.1 (n.B [.acc] 0).1 1 := fun x _ _ => rfl
  constructor
  · rintro ⟨k, hk⟩
    obtain ⟨j, m, _, h1, h2⟩ := hg.fw _ ha k i hk
    cases m with
    | zero => exact h2.elim
    | succ m => exact ⟨j, h1, (accN_acc h0).1 h2⟩
  · rintro ⟨j, h1, h2⟩
    exact hg.bw _ ha i j 1 h1 ((accN_acc h0).2 h2)
theorem Nd.g_acc (n : Nd) (h : n.Ok) (x : Nat) : n.G.1[x]? = some .acc ↔ x = 0 := by
  have hg := Nd.good [] (fun _ => True) n h [.acc] 0 (by simp)
  constructor
  · intro e
    by_cases hx : x = 0
    · exact hx
    · exact (hg.noacc x (by simp; omega) e).elim
  · rintro rfl
    exact (pre_at hg.pre (by simp)).trans rfl
theorem acc_eps {l : List Int} {F : Nat → Prop} {G : List St} {i k y z : Nat} (hz : z ∈ epsF G (decide (i = 0)) (decide (i = l.length)) y) (h : AccN l F G k z i) : AccN l F G (k + 1) y i := by
  unfold epsF at hz
  split at hz
  · rename_i e
    rcases List.mem_cons.1 hz with e2 | e2
    · rw [e2] at h; exact (accN_fork e).2 (Or.inl h)
    · rw [List.mem_singleton.1 e2] at h; exact (accN_fork e).2 (Or.inr h)
  · rename_i e
    split at hz
    · rename_i hp
      rw [List.mem_singleton.1 hz] at h
      exact (accN_beg e).2 ⟨of_decide_eq_true hp, h⟩
    · cases hz
  · rename_i e
    split at hz
    · rename_i hp
      rw [List.mem_singleton.1 hz] at h
      exact (accN_fin e).2 ⟨of_decide_eq_true hp, h⟩
    · cases hz
  · cases hz
theorem acc_rch {l : List Int} {F : Nat → Prop} {G : List St} {i x y : Nat} (hr : Rch G (decide (i = 0)) (decide (i = l.length)) x y) : ∀ k, AccN l F G k y i → ∃ k', AccN l F G k' x i := by
  induction hr with
  | refl => exact fun k h => ⟨k, h⟩
  | step hz _ ih =>
    intro k h
    obtain ⟨k', h'⟩ := ih k h
    exact ⟨_, acc_eps hz h'⟩
theorem acc_place {l : List Int} {F : Nat → Prop} {G : List St} : ∀ (k x i : Nat), AccN l F G k x i → ∃ j, i ≤ j ∧ F j
  | 0, _, _, h => h.elim
  | k + 1, x, i, h => by
    unfold AccN at h
    split at h
    · exact ⟨i, Nat.le_refl _, h⟩
    · obtain ⟨j, h1, h2⟩ := acc_place k _ _ h.2.2; exact ⟨j, by omega, h2⟩
    · exact acc_place k _ _ h.2
    · exact acc_place k _ _ h.2
    · exact h.elim (acc_place k _ _) (acc_place k _ _)
    · exact h.elim
/-- From a list that is closed: an end here, or a byte on. -/
theorem accN_out {l : List Int} {F : Nat → Prop} {G : List St} {i : Nat} {L : List Nat} (hcl : ∀ y ∈ L, ∀ z ∈ epsF G (decide (i = 0)) (decide (i = l.length)) y, z ∈ L) : ∀ (k x : Nat), x ∈ L → AccN l F G k x i →
    (∃ y, y ∈ L ∧ G[y]? = some .acc ∧ F i) ∨ (∃ y p y' k', y ∈ L ∧ G[y]? = some (.eat p y') ∧ i < l.length ∧ p (l.getD i 0).toNat = true ∧ AccN l F G k' y' (i + 1))
  | 0, _, _, h => h.elim
  | k + 1, x, hx, h => by
    unfold AccN at h
    split at h <;> rename_i e
    · exact Or.inl ⟨x, hx, e, h⟩
    · exact Or.inr ⟨x, _, _, k, hx, e, h.1, h.2.1, h.2.2⟩
    · refine accN_out hcl k _ (hcl x hx _ ?_) h.2
      unfold epsF; rw [e]; simp [h.1]
    · refine accN_out hcl k _ (hcl x hx _ ?_) h.2
      unfold epsF; rw [e]; simp [h.1]
    · rcases h with h | h
      · exact accN_out hcl k _ (hcl x hx _ (by unfold epsF; rw [e]; simp)) h
      · exact accN_out hcl k _ (hcl x hx _ (by unfold epsF; rw [e]; simp)) h
    · exact h.elim
/-- The list at place i, of a match that begins in state x0 at place a. -/
structure InvL (l : List Int) (F : Nat → Prop) (G : List St) (x0 a i : Nat) (L : List Nat) : Prop where
  lt : ∀ y ∈ L, y < G.length
  cl : ∀ y ∈ L, ∀ z ∈ epsF G (decide (i = 0)) (decide (i = l.length)) y, z ∈ L
  iff : (∃ k, AccN l F G k x0 a) ↔ ∃ x, x ∈ L ∧ ∃ k, AccN l F G k x i
theorem inv_enter {l : List Int} {F : Nat → Prop} {G : List St} (hc : ClG G) {x0 a : Nat} (hx : x0 < G.length) : InvL l F G x0 a a (addF G (decide (a = 0)) (decide (a = l.length)) (G.length + 1) x0 []) := by
  have h := addF_any hc (decide (a = 0)) (decide (a = l.length)) (G.length + 1) x0 [] (by rw [unm_nil]; omega) hx
  refine ⟨h.lt (fun y hy => by cases hy), fun y hy => h.cl y hy (by simp), fun ⟨k, hk⟩ => ⟨x0, h.self, k, hk⟩, fun ⟨x, hx, k, hk⟩ => ?_⟩
  rcases h.src x hx with h1 | h1
  · cases h1
  · exact acc_rch h1 k hk
theorem inv_step {l : List Int} {F : Nat → Prop} {G : List St} (hc : ClG G) {x0 a i : Nat} {L : List Nat} (h : InvL l F G x0 a i L) (hi : i < l.length) (hF : ¬ F i) : InvL l F G x0 a (i + 1) (stepF G false (decide (i + 1 = l.length)) (l.getD i 0) L) := by
  have hs := step_ok hc false (decide (i + 1 = l.length)) (l.getD i 0) L
  have e0 : decide (i + 1 = 0) = false := by simp
  refine ⟨hs.lt, by rw [e0]; exact hs.cl, fun hk => ?_, fun ⟨x, hx, k, hk⟩ => ?_⟩
  · obtain ⟨x, hx, k, hk⟩ := h.iff.1 hk
    rcases accN_out h.cl k x hx hk with ⟨y, _, _, h1⟩ | ⟨y, p, y', k', h1, h2, _, h3, h4⟩
    · exact (hF h1).elim
    · exact ⟨y', hs.all y h1 p y' h2 h3, k', h4⟩
  · obtain ⟨y, p, y', h1, h2, h3, h4⟩ := hs.src x hx
    rw [← e0] at h4
    obtain ⟨k', hk'⟩ := acc_rch h4 k hk
    exact h.iff.2 ⟨y, h1, k' + 1, (accN_eat h2).2 ⟨hi, h3, hk'⟩⟩
theorem inv_run {l : List Int} {F : Nat → Prop} {G : List St} (hc : ClG G) {x0 a : Nat} (hF : ∀ i, i < l.length → ¬ F i) : ∀ (r : List Int) (i : Nat) (L : List Nat), r = l.drop i → i ≤ l.length → InvL l F G x0 a i L → InvL l F G x0 a l.length (runF G l.length i L r)
  | [], i, L, e, hi, h => by
    have e2 : i = l.length := by
      have := congrArg List.length e
      rw [List.length_drop] at this
      simp at this
      omega
    subst e2
    exact h
  | c :: r, i, L, e, hi, h => by
    have hlt : i < l.length := by
      have := congrArg List.length e
      rw [List.length_drop] at this
      simp at this
      omega
    have e3 : c :: r = l[i] :: l.drop (i + 1) := by rw [e]; exact List.drop_eq_getElem_cons hlt
    have e4 : c = l.getD i 0 := by rw [(List.cons.inj e3).1, List.getD_eq_getElem?_getD, List.getElem?_eq_getElem hlt]; rfl
    unfold runF
    rw [e4]
    exact inv_run hc hF r (i + 1) _ (List.cons.inj e3).2 hlt (inv_step hc h hlt (hF i hlt))
/-- The end's state on the list at place i. -/
theorem inv_zero {l : List Int} {G : List St} {x0 a i : Nat} {L : List Nat} (h0 : ∀ x, G[x]? = some .acc ↔ x = 0) (h : InvL l (fun j => j = i) G x0 a i L) : 0 ∈ L ↔ ∃ k, AccN l (fun j => j = i) G k x0 a := by
  constructor
  · exact fun h1 => h.iff.2 ⟨0, h1, 1, (accN_acc ((h0 0).2 rfl)).2 rfl⟩
  · intro h1
    obtain ⟨x, hx, k, hk⟩ := h.iff.1 h1
    rcases accN_out h.cl k x hx hk with ⟨y, h2, h3, _⟩ | ⟨y, p, y', k', _, _, _, _, h4⟩
    · rw [(h0 y).1 h3] at h2; exact h2
    · obtain ⟨j, h5, h6⟩ := acc_place _ _ _ h4
      omega
/-- THE AUTOMATON ACCEPTS JUST WHAT THE TREE MATCHES. -/
theorem accF_iff (n : Nd) (h : n.Ok) (l : List Int) : accF n.G l = true ↔ n.M l 0 l.length := by
  have hc := n.clG h
  have h1 : InvL l (fun j => j = l.length) n.G.1 n.G.2 0 l.length (runF n.G.1 l.length 0 (addF n.G.1 true (decide (0 = l.length)) (n.G.1.length + 1) n.G.2 []) l) :=
    inv_run hc (fun i hi e => by omega) l 0 _ (by simp) (Nat.zero_le _) (inv_enter hc (n.g_start h))
  unfold accF
  rw [List.contains_iff_mem, inv_zero (n.g_acc h) h1, n.acc_iff l _ h 0]
  exact ⟨fun ⟨j, h2, h3⟩ => h3 ▸ h2, fun h2 => ⟨_, h2, rfl⟩⟩
end Go.Proofs.YtcceiblmdjbhjaaGreatDoor
/- The trees that reading tells fit, and are small (pure). -/
namespace Go.Proofs.YtcceiblmdjbhjaaGreatDoor
open Go.RowKit

def fitL (l : List Nd) : Prop := ∀ x ∈ l, x.Fit
theorem fo_fit : ∀ l : List Nd, fitL l → (fo l).Fit
  | [], _ => trivial
  | n :: r, h => ⟨(h n (by simp)).1, (h n (by simp)).2, fo_fit r fun x hx => h x (List.mem_cons_of_mem _ hx)⟩
theorem fit_zero {kd : Int} {p : Nat → Bool} {mn mx gp : Int} {kids : Fo} (h1 : -9223372036854775808 ≤ mn ∧ mn ≤ 9223372036854775807) (h2 : -9223372036854775808 ≤ mx ∧ mx ≤ 9223372036854775807) (h3 : -9223372036854775808 ≤ gp ∧ gp ≤ 9223372036854775807) (hk : kids.Fit) : (Nd.mk kd p mn mx gp kids).Fit := ⟨⟨h1, h2, h3⟩, hk⟩
theorem fit_join {kd : Int} {l : List Nd} (h : fitL l) : (joinN kd l).Fit := by
  unfold joinN
  split
  · exact h _ (by simp)
  · exact fit_zero (by omega) (by omega) (by omega) (fo_fit _ h)
theorem fit_snoc {l : List Nd} {x : Nd} (h : fitL l) (hx : x.Fit) : fitL (l ++ [x]) := fun y hy => by
  rcases List.mem_append.1 hy with h1 | h1
  · exact h y h1
  · rw [List.mem_singleton.1 h1]; exact hx
theorem fit_one {x : Nd} (h : x.Fit) : fitL [x] := fun y hy => by rw [List.mem_singleton.1 hy]; exact h
theorem fit_repN {x : Nd} {m n : Int} (h : x.Fit) (h1 : -1 ≤ m ∧ m ≤ 255) (h2 : -1 ≤ n ∧ n ≤ 255) : (repN m n x).Fit := fit_zero (by omega) (by omega) (by omega) (fo_fit _ (fit_one h))
theorem fit_rep {l : List Nd} {m n : Int} (h : fitL l) (h1 : -1 ≤ m ∧ m ≤ 255) (h2 : -1 ≤ n ∧ n ≤ 255) : fitL (repL l m n) := by
  unfold repL
  cases hx : l.getLast? with
  | none => exact h
  | some x => exact fit_snoc (fun y hy => h y (List.dropLast_subset _ hy)) (fit_repN (h x (List.mem_of_getLast? hx)) h1 h2)
theorem nD_first {l : List Int} (hl : Byt l) {k : Nat} (h : 0 < nD l k) : l.getD k 0 ≠ 45 := by
  unfold nD passN at h
  have h1 := (stopN_is (passB (ofBys l) dgtB true k) ((ofBys l).size - k)).2.1 0 h
  unfold passB at h1
  rw [Nat.add_zero, beq_iff_eq] at h1
  have e : bys dgtB = [48, 49, 50, 51, 52, 53, 54, 55, 56, 57] := by decide
  rw [e] at h1
  unfold inB at h1
  have h2 : atB (ofBys l) k ∈ ([48, 49, 50, 51, 52, 53, 54, 55, 56, 57] : List Int) := by simpa using h1
  unfold atB at h2
  rw [bys_ofBys hl] at h2
  intro h45
  rw [h45] at h2
  simp at h2
theorem numV_fits {l : List Int} (hl : Byt l) {k : Nat} (h : numOk l k = true) : 0 ≤ numV l k ∧ numV l k ≤ 255 := by
  unfold numOk at h
  simp only [Bool.and_eq_true, decide_eq_true_eq] at h
  refine ⟨?_, h.2⟩
  unfold numV wV
  rw [if_pos h.1.1]
  split
  · rename_i h45
    exfalso
    by_cases hn : 0 < nD l k
    · refine nD_first hl hn ?_
      unfold dgs at h45
      rw [List.getD_eq_getElem?_getD, List.getElem?_take, if_pos hn, List.getElem?_drop, Nat.add_zero, ← List.getD_eq_getElem?_getD] at h45
      exact h45
    · unfold dgs at h45
      rw [show nD l k = 0 by omega] at h45
      simp at h45
  · exact valK_nonneg 10 (by decide) _ _ (Nat.le_refl _)
theorem itv_fits {l : List Int} (hl : Byt l) {ext : Bool} {k : Nat} {m n : Int} {k2 : Nat} (h : itv l ext k = some (m, n, k2)) : (-1 ≤ m ∧ m ≤ 255) ∧ (-1 ≤ n ∧ n ≤ 255) := by
  unfold itv at h
  split at h
  · cases h
  rename_i h0
  have a := numV_fits hl (k := k) (by simpa using h0)
  split at h
  · simp only [Option.some.injEq, Prod.mk.injEq] at h; omega
  split at h
  · cases h
  split at h
  · simp only [Option.some.injEq, Prod.mk.injEq] at h; omega
  split at h
  · rename_i h3
    simp only [Bool.and_eq_true] at h3
    have b := numV_fits hl (k := k + nD l k + 1) h3.1.1
    simp only [Option.some.injEq, Prod.mk.injEq] at h; omega
  · cases h
theorem sg_num (cf : ByteArray → (Nat → Bool) × Bool) {l : List Int} (hl : Byt l) (ext : Bool) (k : Nat) : (sg cf l ext k).kd = 1 → (sg cf l ext k).er = none → (-1 ≤ (sg cf l ext k).lo ∧ (sg cf l ext k).lo ≤ 255) ∧ (-1 ≤ (sg cf l ext k).hi ∧ (sg cf l ext k).hi ≤ 255) := by
  apply sg_cases (fun s => s.kd = 1 → s.er = none → (-1 ≤ s.lo ∧ s.lo ≤ 255) ∧ (-1 ≤ s.hi ∧ s.hi ≤ 255))
  case h123 => exact fun m n k2 _ hi _ _ => itv_fits hl hi
  all_goals
    intros
    dsimp only
    omega
theorem sg_nd_fit (cf : ByteArray → (Nat → Bool) × Bool) (l : List Int) (ext : Bool) (k : Nat) : (sg cf l ext k).nd.Fit := by
  apply sg_cases (fun s => s.nd.Fit) <;> intros <;> exact fit_zero (by decide) (by decide) (by decide) trivial
/-- What was read fits. -/
theorem rdR_fit (cf : ByteArray → (Nat → Bool) × Bool) {l : List Int} (hl : Byt l) (ext : Bool) (n : Nat) (md : RM) (k g o : Nat) (t : Nd) (k1 g1 : Nat) (h : rdR cf l ext n md k g o = some (.ok t k1 g1)) (hm : fitL md.list) (hg : g ≤ 9) : t.Fit ∧ g1 ≤ 9 := by
  have key := rdR_ind cf l ext (fun md _ g _ r => fitL md.list → g ≤ 9 → ∀ t k1 g1, r = .ok t k1 g1 → t.Fit ∧ g1 ≤ 9) ?_ ?_ ?_ ?_ ?_ ?_ ?_ ?_ ?_ ?_ ?_ ?_ ?_ ?_ ?_ n md k g o _ h
  · exact key hm hg t k1 g1 rfl
  · intro bs k g o c p _ _ _ t k1 g1 e; cases e
  · intro bs k g o b k1 g1 r h1 _ h2 hm hg t k2 g2 e
    have a := h1 (fun x hx => by cases hx) hg _ _ _ rfl
    exact h2 (fit_snoc hm a.1) a.2 _ _ _ e
  · intro bs k g o b k1 g1 h1 _ hm hg t k2 g2 e
    have a := h1 (fun x hx => by cases hx) hg _ _ _ rfl
    cases e
    exact ⟨fit_join (fit_snoc hm a.1), a.2⟩
  · intro k g o _ _ _ t k1 g1 e; cases e
  · intro items k g o _ _ hm hg t k1 g1 e
    cases e
    exact ⟨fit_join hm, hg⟩
  · intro items k g o r _ _ h2 hm hg t k1 g1 e
    exact h2 (fit_snoc hm (fit_zero (by decide) (by decide) (by decide) trivial)) hg _ _ _ e
  · intro items k g o _ _ _ _ t k1 g1 e; cases e
  · intro items k g o c p _ _ _ _ _ t k1 g1 e; cases e
  · intro items k g o r hk1 _ her h2 hm hg t k1 g1 e
    have a := sg_num cf hl ext k hk1 her
    exact h2 (fit_rep hm a.1 a.2) hg _ _ _ e
  · intro items k g o _ _ _ _ t k1 g1 e; cases e
  · intro items k g o c p _ _ _ _ _ t k1 g1 e; cases e
  · intro items k g o t k1 g1 _ _ _ _ _ _ t' k2 g2 e; cases e
  · intro items k g o t k1 g1 r _ h9 h1 _ h2 hm hg t' k2 g2 e
    have a := h1 (fun x hx => by cases hx) (by omega) _ _ _ rfl
    exact h2 (fit_snoc hm (fit_zero (by decide) (by decide) (by omega) (fo_fit _ (fit_one a.1)))) a.2 _ _ _ e
  · intro items k g o c p _ _ _ _ _ _ t k1 g1 e; cases e
  · intro items k g o r _ _ _ _ _ h2 hm hg t k1 g1 e
    exact h2 (fit_snoc hm (sg_nd_fit cf l ext k)) hg _ _ _ e
/-- What Parse tells fits, and is small. -/
theorem parseN_fit {cf : ByteArray → (Nat → Bool) × Bool} {l : List Int} (hl : Byt l) {ext : Bool} {n : Nat} {t : Nd} {k g : Nat} (h : parseN cf l ext n = some (.ok t k g)) : t.Fit ∧ t.sz ≤ 1026 := by
  obtain ⟨h1, h2, h3, _⟩ := parseN_ok h
  have a := rdR_fit cf hl ext _ _ _ _ _ _ _ _ h2 (fun x hx => by cases hx) (Nat.zero_le _)
  have b := rdR_sz cf l ext _ _ _ _ _ _ _ _ h2 (Nat.zero_le _)
  have z : RM.sz (.re []) = 0 := rfl
  have z2 : RM.ad (.re []) = 2 := rfl
  rw [z, z2] at b
  exact ⟨a.1, by omega⟩
end Go.Proofs.YtcceiblmdjbhjaaGreatDoor
/- The trees that reading tells can be built from (pure). -/
namespace Go.Proofs.YtcceiblmdjbhjaaGreatDoor
open Go.RowKit

theorem Fo.nn_sz : ∀ f : Fo, f.nn = f.sz
  | .nil => rfl
  | .cons _ _ _ _ _ kids rest => by
    show 1 + kids.nn + rest.nn = 1 + kids.sz + rest.sz
    rw [Fo.nn_sz kids, Fo.nn_sz rest]
theorem Nd.nn_sz (n : Nd) : n.nn = n.sz := by unfold Nd.nn Nd.sz; rw [Fo.nn_sz]
def okL (l : List Nd) : Prop := ∀ x ∈ l, x.Ok
theorem fo_ok : ∀ l : List Nd, okL l → (fo l).Ok
  | [], _ => trivial
  | n :: r, h => ⟨(h n (by simp)).1, (h n (by simp)).2, fo_ok r fun x hx => h x (List.mem_cons_of_mem _ hx)⟩
theorem ok_snoc {l : List Nd} {x : Nd} (h : okL l) (hx : x.Ok) : okL (l ++ [x]) := fun y hy => by
  rcases List.mem_append.1 hy with h1 | h1
  · exact h y h1
  · rw [List.mem_singleton.1 h1]; exact hx
theorem ok_one {x : Nd} (h : x.Ok) : okL [x] := fun y hy => by rw [List.mem_singleton.1 hy]; exact h
theorem ok_join {kd : Int} {l : List Nd} (h : okL l) (hl : l ≠ []) (h6 : kd ≠ 6) : (joinN kd l).Ok := by
  unfold joinN
  split
  · exact h _ (by simp)
  · exact ⟨⟨fun _ => by rw [fo_len]; exact List.length_pos_iff.2 hl, fun e => (h6 e).elim⟩, fo_ok _ h⟩
theorem ok_repN {x : Nd} {m n : Int} (h : x.Ok) (h1 : 0 ≤ m ∧ (n = -1 ∨ m ≤ n) ∧ m ≤ 255 ∧ n ≤ 255) : (repN m n x).Ok := ⟨⟨fun e => (by cases e), fun _ => ⟨h1.1, h1.2.1, h1.2.2.1, h1.2.2.2, rfl⟩⟩, fo_ok _ (ok_one h)⟩
theorem ok_rep {l : List Nd} {m n : Int} (h : okL l) (h1 : 0 ≤ m ∧ (n = -1 ∨ m ≤ n) ∧ m ≤ 255 ∧ n ≤ 255) : okL (repL l m n) := by
  unfold repL
  cases hx : l.getLast? with
  | none => exact h
  | some x => exact ok_snoc (fun y hy => h y (List.dropLast_subset _ hy)) (ok_repN (h x (List.mem_of_getLast? hx)) h1)
theorem ok_leaf {kd : Int} {p : Nat → Bool} {mn mx gp : Int} (h5 : kd ≠ 5) (h6 : kd ≠ 6) : Nd.Ok ⟨kd, p, mn, mx, gp, .nil⟩ := ⟨⟨fun e => (h5 e).elim, fun e => (h6 e).elim⟩, trivial⟩
theorem itv_okk {l : List Int} (hl : Byt l) {ext : Bool} {k : Nat} {m n : Int} {k2 : Nat} (h : itv l ext k = some (m, n, k2)) : 0 ≤ m ∧ (n = -1 ∨ m ≤ n) ∧ m ≤ 255 ∧ n ≤ 255 := by
  unfold itv at h
  split at h
  · cases h
  rename_i h0
  have a := numV_fits hl (k := k) (by simpa using h0)
  split at h
  · simp only [Option.some.injEq, Prod.mk.injEq] at h; omega
  split at h
  · cases h
  split at h
  · simp only [Option.some.injEq, Prod.mk.injEq] at h; omega
  split at h
  · rename_i h3
    simp only [Bool.and_eq_true, decide_eq_true_eq] at h3
    have b := numV_fits hl (k := k + nD l k + 1) h3.1.1
    simp only [Option.some.injEq, Prod.mk.injEq] at h; omega
  · cases h
theorem sg_numOk (cf : ByteArray → (Nat → Bool) × Bool) {l : List Int} (hl : Byt l) (ext : Bool) (k : Nat) : (sg cf l ext k).kd = 1 → (sg cf l ext k).er = none → 0 ≤ (sg cf l ext k).lo ∧ ((sg cf l ext k).hi = -1 ∨ (sg cf l ext k).lo ≤ (sg cf l ext k).hi) ∧ (sg cf l ext k).lo ≤ 255 ∧ (sg cf l ext k).hi ≤ 255 := by
  apply sg_cases (fun s => s.kd = 1 → s.er = none → 0 ≤ s.lo ∧ (s.hi = -1 ∨ s.lo ≤ s.hi) ∧ s.lo ≤ 255 ∧ s.hi ≤ 255)
  case h123 => exact fun m n k2 _ hi _ _ => itv_okk hl hi
  all_goals
    intros
    dsimp only
    omega
theorem sg_nd_ok (cf : ByteArray → (Nat → Bool) × Bool) (l : List Int) (ext : Bool) (k : Nat) : (sg cf l ext k).nd.Ok := by
  apply sg_cases (fun s => s.nd.Ok) <;> intros <;> exact ok_leaf (by decide) (by decide)
theorem rdR_okN (cf : ByteArray → (Nat → Bool) × Bool) {l : List Int} (hl : Byt l) (ext : Bool) (n : Nat) (md : RM) (k g o : Nat) (t : Nd) (k1 g1 : Nat) (h : rdR cf l ext n md k g o = some (.ok t k1 g1)) (hm : okL md.list) : t.Ok := by
  have key := rdR_ind cf l ext (fun md _ _ _ r => okL md.list → ∀ t k1 g1, r = .ok t k1 g1 → t.Ok) ?_ ?_ ?_ ?_ ?_ ?_ ?_ ?_ ?_ ?_ ?_ ?_ ?_ ?_ ?_ n md k g o _ h
  · exact key hm t k1 g1 rfl
  · intro bs k g o c p _ _ t k1 g1 e; cases e
  · intro bs k g o b k1 g1 r h1 _ h2 hm t k2 g2 e
    have a := h1 (fun x hx => by cases hx) _ _ _ rfl
    exact h2 (ok_snoc hm a) _ _ _ e
  · intro bs k g o b k1 g1 h1 _ hm t k2 g2 e
    have a := h1 (fun x hx => by cases hx) _ _ _ rfl
    cases e
    exact ok_join (ok_snoc hm a) (by simp) (by decide)
  · intro k g o _ _ t k1 g1 e; cases e
  · intro items k g o _ hne hm t k1 g1 e
    cases e
    exact ok_join hm hne (by decide)
  · intro items k g o r _ _ h2 hm t k1 g1 e
    exact h2 (ok_snoc hm (ok_leaf (by decide) (by decide))) _ _ _ e
  · intro items k g o _ _ _ t k1 g1 e; cases e
  · intro items k g o c p _ _ _ _ t k1 g1 e; cases e
  · intro items k g o r hk1 _ her h2 hm t k1 g1 e
    exact h2 (ok_rep hm (sg_numOk cf hl ext k hk1 her)) _ _ _ e
  · intro items k g o _ _ _ t k1 g1 e; cases e
  · intro items k g o c p _ _ _ _ t k1 g1 e; cases e
  · intro items k g o t k1 g1 _ _ _ _ _ t' k2 g2 e; cases e
  · intro items k g o t k1 g1 r _ h9 h1 _ h2 hm t' k2 g2 e
    have a := h1 (fun x hx => by cases hx) _ _ _ rfl
    exact h2 (ok_snoc hm ⟨⟨fun e => (by cases e), fun e => (by cases e)⟩, fo_ok _ (ok_one a)⟩) _ _ _ e
  · intro items k g o c p _ _ _ _ _ t k1 g1 e; cases e
  · intro items k g o r _ _ _ _ _ h2 hm t k1 g1 e
    exact h2 (ok_snoc hm (sg_nd_ok cf l ext k)) _ _ _ e
/-- What Parse tells can be built from. -/
theorem parseN_okN {cf : ByteArray → (Nat → Bool) × Bool} {l : List Int} (hl : Byt l) {ext : Bool} {n : Nat} {t : Nd} {k g : Nat} (h : parseN cf l ext n = some (.ok t k g)) : t.Ok ∧ t.nn ≤ 1026 ∧ 1 ≤ t.kd := by
  obtain ⟨h1, h2, h3, _⟩ := parseN_ok h
  refine ⟨rdR_okN cf hl ext _ _ _ _ _ _ _ _ h2 (fun x hx => by cases hx), ?_, ?_⟩
  · rw [Nd.nn_sz]; exact (parseN_fit hl h).2
  · exact (rdR_kd cf l ext _ _ _ _ _ _ _ _ h2 (fun x hx => by cases hx) (Nat.zero_le _)).1
end Go.Proofs.YtcceiblmdjbhjaaGreatDoor
/- Rows of bytes as trees: what their automaton accepts (pure). -/
namespace Go.Proofs.YtcceiblmdjbhjaaGreatDoor
open Go.RowKit

def litN (c : Int) : Nd := setN (mem [c])
theorem litM (l : List Int) (c : Int) (i j : Nat) : (litN c).M l i j ↔ j = i + 1 ∧ i < l.length ∧ mem [c] (l.getD i 0).toNat = true := Iff.rfl
end Go.Proofs.YtcceiblmdjbhjaaGreatDoor
/- Plain texts: letters, any byte and *: both grammars read them alike (pure). -/
namespace Go.Proofs.YtcceiblmdjbhjaaGreatDoor
open Go.RowKit

theorem sgT_pl {l : List Int} {k : Nat} (h : k < l.length) (h92 : l.getD k 0 ≠ 92) : sgT l k = [l.getD k 0] := by
  unfold sgT
  rw [if_pos h, if_neg (fun e => h92 e.1)]
theorem sg_letter (cf : ByteArray → (Nat → Bool) × Bool) {l : List Int} (ext : Bool) {k : Nat} (h : k < l.length) (hc : 97 ≤ l.getD k 0 ∧ l.getD k 0 ≤ 122) :
    sg cf l ext k = ⟨0, [l.getD k 0], setN (mem [l.getD k 0]), 0, 0, none, k + 1⟩ := by
  unfold sg
  rw [sgT_pl h (by omega)]
  generalize l.getD k 0 = c at *
  have hr : roleC [c] ext = 0 := by
    unfold roleC
    rw [if_neg (by simp), if_neg (by simp), if_neg (by simp; omega), if_neg (by simp; omega)]
  have hl : litR [c] ext = .byt c := by
    unfold litR
    rw [if_pos (by simp; omega)]
    rfl
  rw [hr]
  unfold sgR
  rw [if_pos rfl, hl]
  rfl
theorem sg_over (cf : ByteArray → (Nat → Bool) × Bool) (l : List Int) (ext : Bool) : (sg cf l ext l.length).kd = 5 := by
  unfold sg
  rw [sgT_end l l.length (by omega)]
  rfl
theorem repL_last (L : List Nd) (x : Nd) (m n : Int) : repL (L ++ [x]) m n = L ++ [repN m n x] := by
  unfold repL
  rw [List.getLast?_append]
  simp
end Go.Proofs.YtcceiblmdjbhjaaGreatDoor
/- Intervals as texts, and what they accept (pure). -/
namespace Go.Proofs.YtcceiblmdjbhjaaGreatDoor
open Go.RowKit

/-- A number below 100 in decimals. -/
def dg (n : Nat) : List Int := if n < 10 then [48 + (n : Int)] else [48 + ((n / 10 : Nat) : Int), 48 + ((n % 10 : Nat) : Int)]
theorem dg_all : ((List.range 100).all fun n => wOk (dg n) && decide (wV (dg n) = (n : Int)) && decide ((dg n).length ≤ 2) && decide (0 < (dg n).length) && (dg n).all fun x => decide (48 ≤ x) && decide (x ≤ 57)) = true := by kernel_rfl
theorem dg_is {n : Nat} (h : n < 100) : wOk (dg n) = true ∧ wV (dg n) = (n : Int) ∧ (dg n).length ≤ 2 ∧ 0 < (dg n).length ∧ ∀ x ∈ dg n, 48 ≤ x ∧ x ≤ 57 := by
  have := List.all_eq_true.1 dg_all n (List.mem_range.2 h)
  simp only [Bool.and_eq_true, decide_eq_true_eq, List.all_eq_true] at this
  exact ⟨this.1.1.1.1, this.1.1.1.2, this.1.1.2, this.1.2, this.2⟩
theorem digit_in {x : Int} : inB x (bys dgtB) = decide (48 ≤ x ∧ x ≤ 57) := by
  have e : bys dgtB = [48, 49, 50, 51, 52, 53, 54, 55, 56, 57] := by decide
  rw [e]
  unfold inB
  rw [Bool.eq_iff_iff, decide_eq_true_iff]
  simp only [List.contains_iff_mem, List.mem_cons, List.not_mem_nil, or_false]
  omega
theorem getD_mid (pre mid rest : List Int) {i : Nat} (h : i < mid.length) : (pre ++ mid ++ rest).getD (pre.length + i) 0 = mid.getD i 0 := by
  rw [List.append_assoc, List.getD_eq_getElem?_getD, List.getElem?_append_right (by omega), Nat.add_sub_cancel_left, List.getElem?_append_left h, ← List.getD_eq_getElem?_getD]
theorem getD_aft (pre mid rest : List Int) (t : Int) : (pre ++ mid ++ t :: rest).getD (pre.length + mid.length) 0 = t := by
  rw [List.getD_eq_getElem?_getD, List.getElem?_append_right (by simp), List.length_append, Nat.sub_self]
  rfl
theorem num_at {l pre rest : List Int} {n : Nat} {t : Int} (hl : l = pre ++ dg n ++ t :: rest) (hb : Byt l) (hn : n < 100) (ht : ¬ (48 ≤ t ∧ t ≤ 57)) :
    nD l pre.length = (dg n).length ∧ numOk l pre.length = true ∧ numV l pre.length = (n : Int) := by
  obtain ⟨d1, d2, d3, d4, d5⟩ := dg_is hn
  have hlen : l.length = pre.length + (dg n).length + (rest.length + 1) := by rw [hl]; simp; omega
  have hN : nD l pre.length = (dg n).length := by
    unfold nD
    rw [passN_of (j := pre.length + (dg n).length) (by omega) (by rw [ofBys_size]; omega) (fun i h1 h2 => ?_) (fun _ => ?_)]
    · omega
    · unfold atB
      rw [bys_ofBys hb, digit_in, decide_eq_true_iff]
      obtain ⟨i, rfl⟩ : ∃ j, i = pre.length + j := ⟨i - pre.length, by omega⟩
      have hi : i < (dg n).length := by omega
      rw [hl, getD_mid _ _ _ hi, List.getD_eq_getElem?_getD, List.getElem?_eq_getElem hi]
      exact d5 _ (List.getElem_mem _)
    · unfold atB
      rw [bys_ofBys hb, digit_in, decide_eq_true_iff, hl, getD_aft]
      exact ht
  have hD : dgs l pre.length = dg n := by
    unfold dgs
    rw [hN, hl, List.append_assoc, List.drop_left, List.take_left]
  refine ⟨hN, ?_, ?_⟩
  · unfold numOk
    rw [hD, d1, d2]
    simp
    omega
  · unfold numV
    rw [hD, d2]
theorem beg_one {l : List Int} {k : Nat} {x : Int} {r : List Int} (y : Int) (h : l.drop k = x :: r) : begAt l k [y] = decide (x = y) := by
  unfold begAt
  rw [h]
  simp
/-- From m to k times. -/
def tmA (c : Int) (m k : Nat) : List Int := [c, 123] ++ dg m ++ 44 :: (dg k ++ [125])
/-- At least m times. -/
def tmB (c : Int) (m : Nat) : List Int := [c, 123] ++ dg m ++ 44 :: [125]
theorem drop_mid (pre mid rest : List Int) {k : Nat} (hk : k = pre.length + mid.length) : (pre ++ mid ++ rest).drop k = rest := by
  rw [hk, ← List.length_append, List.drop_left]
theorem itv_B (c : Int) (m : Nat) (hb : Byt (tmB c m)) (hm : m < 100) : itv (tmB c m) true 2 = some ((m : Int), -1, (tmB c m).length) := by
  obtain ⟨h1, h2, h3⟩ := num_at (l := tmB c m) (pre := [c, 123]) (rest := [125]) (n := m) (t := 44) rfl hb hm (by omega)
  have e : ([c, 123] : List Int).length = 2 := rfl
  rw [e] at h1 h2 h3
  have d0 : (tmB c m).drop (2 + (dg m).length) = 44 :: [125] := drop_mid [c, 123] (dg m) _ rfl
  have d1 : (tmB c m).drop (2 + (dg m).length + 1) = 125 :: [] := by rw [← List.drop_drop, d0]; rfl
  have hs : shutT true = [125] := rfl
  have hlen : (tmB c m).length = 2 + (dg m).length + 1 + 1 := by unfold tmB; simp; omega
  unfold itv
  rw [h1, h2, h3, hs, if_neg (by decide), if_neg (by rw [beg_one _ d0]; decide), if_neg (by rw [beg_one _ d0]; decide), if_pos (by rw [beg_one _ d1]; decide), hlen]
  rfl
theorem itv_A (c : Int) (m k : Nat) (hb : Byt (tmA c m k)) (hmk : m ≤ k) (hk : k < 100) : itv (tmA c m k) true 2 = some ((m : Int), (k : Int), (tmA c m k).length) := by
  obtain ⟨h1, h2, h3⟩ := num_at (l := tmA c m k) (pre := [c, 123]) (rest := dg k ++ [125]) (n := m) (t := 44) rfl hb (by omega) (by omega)
  have e : ([c, 123] : List Int).length = 2 := rfl
  rw [e] at h1 h2 h3
  have hA : tmA c m k = ([c, 123] ++ dg m ++ [44]) ++ dg k ++ 125 :: [] := by unfold tmA; simp
  obtain ⟨g1, g2, g3⟩ := num_at (l := tmA c m k) (pre := [c, 123] ++ dg m ++ [44]) (rest := []) (n := k) (t := 125) hA hb hk (by omega)
  have e2 : ([c, 123] ++ dg m ++ [44]).length = 2 + (dg m).length + 1 := by simp; omega
  rw [e2] at g1 g2 g3
  obtain ⟨_, _, _, q4, q5⟩ := dg_is hk
  obtain ⟨x, r, hxr⟩ : ∃ x r, dg k = x :: r := by
    cases hd : dg k with
    | nil => rw [hd] at q4; simp at q4
    | cons x r => exact ⟨x, r, rfl⟩
  have hx := q5 x (by rw [hxr]; simp)
  have d0 : (tmA c m k).drop (2 + (dg m).length) = 44 :: (dg k ++ [125]) := drop_mid [c, 123] (dg m) _ rfl
  have d1 : (tmA c m k).drop (2 + (dg m).length + 1) = x :: (r ++ [125]) := by rw [← List.drop_drop, d0, hxr]; rfl
  have d2 : (tmA c m k).drop (2 + (dg m).length + 1 + (dg k).length) = 125 :: [] := by rw [hA]; exact drop_mid _ _ _ (by rw [e2])
  have hs : shutT true = [125] := rfl
  have hlen : (tmA c m k).length = 2 + (dg m).length + 1 + (dg k).length + 1 := by rw [hA, List.length_append, List.length_append, e2]; simp
  have hcnd : (numOk (tmA c m k) (2 + (dg m).length + 1) && decide ((m : Int) ≤ (k : Int)) && begAt (tmA c m k) (2 + (dg m).length + 1 + (dg k).length) [125]) = true := by
    rw [g2, beg_one _ d2]
    simp
    omega
  unfold itv
  rw [h1, h2, h3, g1, g3, hs, if_neg (by decide), if_neg (by rw [beg_one _ d0]; decide), if_neg (by rw [beg_one _ d0]; decide), if_neg (by rw [beg_one _ d1, decide_eq_true_iff]; omega), if_pos hcnd, hlen]
  rfl
/-- A letter and an interval behind it: read. -/
theorem parse_times (cf : ByteArray → (Nat → Bool) × Bool) {l r : List Int} {c : Int} (hl : l = c :: 123 :: r) (hc : 97 ≤ c ∧ c ≤ 122) {mn mx : Int} (hi : itv l true 2 = some (mn, mx, l.length)) (h1 : l.length ≤ 256) : parseN cf l true 5 = some (.ok (repN mn mx (litN c)) l.length 0) := by
  have hlen : 2 ≤ l.length := by rw [hl]; simp
  have c0 : l.getD 0 0 = c := by rw [hl]; rfl
  have c1 : l.getD 1 0 = 123 := by rw [hl]; rfl
  have s0 := sg_letter cf true (l := l) (k := 0) (by omega) (by rw [c0]; exact hc)
  rw [c0] at s0
  have s1 : sg cf l true 1 = ⟨1, [123], zeroN, mn, mx, none, l.length⟩ := by
    unfold sg
    rw [sgT_pl (l := l) (k := 1) (by omega) (by rw [c1]; decide), c1]
    have hr : roleC [123] true = 123 := rfl
    rw [hr]
    show (match itv l true 2 with | some (m, n, k2) => _ | none => _) = _
    rw [hi]
  have hbr : rdR cf l true 4 (.br []) 0 0 0 = some (.ok (repN mn mx (litN c)) l.length 0) := by
    rw [rdR_br]
    obtain ⟨k1, k2, k3, k5, k6⟩ : (sg cf l true 0).kd = 0 ∧ (sg cf l true 0).tx = [c] ∧ (sg cf l true 0).nd = litN c ∧ (sg cf l true 0).er = none ∧ (sg cf l true 0).nx = 1 := by rw [s0]; exact ⟨rfl, rfl, rfl, rfl, rfl⟩
    have hb : ∀ nk it, isByt true (sg cf l true 0) nk it = false := fun _ _ => rfl
    rw [k1, if_neg (by decide), if_neg (by rw [hb]; decide), if_neg (by decide), if_neg (by decide), k5]
    dsimp only
    rw [k3, k6, rdR_br]
    obtain ⟨k1, k3, k4, k5, k6⟩ : (sg cf l true 1).kd = 1 ∧ (sg cf l true 1).lo = mn ∧ (sg cf l true 1).hi = mx ∧ (sg cf l true 1).er = none ∧ (sg cf l true 1).nx = l.length := by rw [s1]; exact ⟨rfl, rfl, rfl, rfl, rfl⟩
    have hb : ∀ nk it, isByt true (sg cf l true 1) nk it = false := fun _ _ => rfl
    have he : endsP ([] ++ [litN c]) = true := rfl
    rw [k1, if_neg (by decide), if_neg (by rw [hb]; decide), if_pos rfl, if_neg (by rw [he]; decide), k5]
    dsimp only
    rw [k3, k4, k6, repL_last, rdR_br, sg_over, if_pos (by rfl), if_neg (by simp)]
    rfl
  unfold parseN
  rw [if_neg (by omega), rdR_re, hbr]
  dsimp only
  rw [sg_over, if_neg (by decide)]
  dsimp only
  rw [sg_over, if_pos rfl]
  rfl
theorem rep_iter {c : Int} (hc : 0 ≤ c) (n : Nat) : ∀ (j i e : Nat), i ≤ n → (iterR ((litN c).M (List.replicate n c)) j i e ↔ e = i + j ∧ e ≤ n)
  | 0, i, e, hi => by
    show i = e ↔ _
    omega
  | j + 1, i, e, hi => by
    show (∃ m, (litN c).M (List.replicate n c) i m ∧ iterR _ j m e) ↔ _
    constructor
    · rintro ⟨m, hm, h⟩
      obtain ⟨rfl, hlt, _⟩ := (litM _ c i m).1 hm
      rw [List.length_replicate] at hlt
      have := (rep_iter hc n j (i + 1) e (by omega)).1 h
      omega
    · rintro ⟨h1, h2⟩
      refine ⟨i + 1, (litM _ c i _).2 ⟨rfl, by rw [List.length_replicate]; omega, ?_⟩, (rep_iter hc n j (i + 1) e (by omega)).2 ⟨by omega, h2⟩⟩
      have e3 : (List.replicate n c).getD i 0 = c := by rw [List.getD_eq_getElem?_getD, List.getElem?_replicate, if_pos (by omega)]; rfl
      rw [e3]
      unfold mem
      rw [decide_eq_true_iff, List.mem_singleton]
      omega
theorem repN_ok (c mn mx : Int) (h : 0 ≤ mn ∧ (mx = -1 ∨ mn ≤ mx) ∧ mn ≤ 255 ∧ mx ≤ 255) : (repN mn mx (litN c)).Ok := ok_repN (ok_leaf (by decide) (by decide)) h
/-- What a letter so many times accepts of rows of the letter. -/
theorem rep_acc {c mn mx : Int} (hc : 0 ≤ c) (h : 0 ≤ mn ∧ (mx = -1 ∨ mn ≤ mx) ∧ mn ≤ 255 ∧ mx ≤ 255) (n : Nat) : accF (repN mn mx (litN c)).G (List.replicate n c) = decide (mn ≤ (n : Int) ∧ (mx < 0 ∨ (n : Int) ≤ mx)) := by
  rw [Bool.eq_iff_iff, accF_iff _ (repN_ok c mn mx h), decide_eq_true_iff, List.length_replicate]
  have e1 : ∀ i j, (fo [litN c]).M (List.replicate n c) true i j ↔ (litN c).M (List.replicate n c) i j := fun i j => ⟨fun ⟨k, h, e⟩ => e ▸ h, fun h => ⟨j, h, rfl⟩⟩
  have e2 : (fo [litN c]).M (List.replicate n c) true = (litN c).M (List.replicate n c) := by funext i j; exact propext (e1 i j)
  show (∃ k : Nat, mn ≤ k ∧ (mx < 0 ∨ (k : Int) ≤ mx) ∧ iterR ((fo [litN c]).M (List.replicate n c) true) k 0 n) ↔ _
  rw [e2]
  constructor
  · rintro ⟨k, h1, h2, h3⟩
    have := (rep_iter hc n k 0 n (Nat.zero_le _)).1 h3
    omega
  · rintro ⟨h1, h2⟩
    exact ⟨n, h1, h2, (rep_iter hc n n 0 n (Nat.zero_le _)).2 ⟨by omega, Nat.le_refl _⟩⟩
end Go.Proofs.YtcceiblmdjbhjaaGreatDoor
/- digits: a number's text; build: an automaton of a text. -/
namespace Go.Proofs.YtcceiblmdjbhjaaGreatDoor
open Go.RowKit

theorem conv_one (X : World) (c : Int) (hc : 0 ≤ c ∧ c ≤ 255) : (convert 22 9 (.slice (some ⟨X.heap.size, 0, none⟩) 1 1)).run Tryz.prog (X.alloc (.cells #[.int .u8 c] 5)) = .ok (.string (ofBys [c])) (X.alloc (.cells #[.int .u8 c] 5)) :=
  conv_string ⟨byt_ofR (by intro x hx; rw [List.mem_singleton.1 hx]; omega), by simp, Or.inr ⟨X.heap.size, 0, 1, rfl, by simp, by decide, fun i hi => by
    have h1 : i < 1 := hi
    rw [Lib.cell_of_heap (alloc_last X _), Nat.zero_add]
    match i, h1 with
    | 0, _ => rfl⟩⟩
set_option maxRecDepth 100000 in
set_option maxHeartbeats 4000000 in
theorem digits_any (n : Nat) (h : n < 100) (w : World) : Calls Tryz.prog 28 #[.int .i64 (n : Nat)] w fun x w' => x = .returned (.string (ofBys (dg n))) ∧ Below w.heap.size w w' := by
  by_cases h10 : n < 10
  · have HD : Hid (dg n = [48 + (n : Int)]) := Lib.hid (by unfold dg; rw [if_pos h10])
    rw [HD.out]
    have hm : (n : Int) % 10 = n := by omega
    have hd : (n : Int) / 10 = 0 := by omega
    have hc : ((48 : Int) + (n : Int)) % 256 = 48 + (n : Int) := by omega
    have HCV := fun X => conv_one X (48 + (n : Int)) (by omega)
    have HB0 : Hid (Below w.heap.size w (w.alloc (.cells #[.int .u8 (48 + (n : Int))] 5))) := Lib.hid ((Below.refl w.heap.size w).alloc (Nat.le_refl _) _)
    go_enter Tryz.func28, Tryz.ntmps28
    go_upto_region 2 with fail
    go_loopg [0, 3] 0 (fun gh s0 s3 X => gh = 0 ∧ s0 = .int .i64 (n : Nat) ∧ s3 = .string ⟨#[]⟩ ∧ Aside (X = w))
    case atStart => exact ⟨rfl, rfl, rfl, rfl⟩
    case round =>
      obtain ⟨_, rfl, rfl, hal⟩ := hrel
      obtain rfl := hal.out
      go_wp2_with fail
      go_ret
      exact ⟨rfl, HB0.out⟩
  · obtain ⟨r, hr⟩ : ∃ r, r = n % 10 := ⟨_, rfl⟩
    obtain ⟨m, hm⟩ : ∃ m, m = n / 10 := ⟨_, rfl⟩
    have HD : Hid (dg n = [48 + (m : Int), 48 + (r : Int)]) := Lib.hid (by unfold dg; rw [if_neg h10, hm, hr])
    rw [HD.out]
    have hm1 : (n : Int) % 10 = r := by omega
    have hd1 : (n : Int) / 10 = m := by omega
    have hm2 : (m : Int) % 10 = m := by omega
    have hd2 : (m : Int) / 10 = 0 := by omega
    have hm0 : ¬ (m : Int) = 0 := by omega
    have hm3 : ((m : Int) == 0) = false := beq_eq_false_iff_ne.2 hm0
    have hm4 : ¬ m = 0 := by omega
    have hc1 : ((48 : Int) + (r : Int)) % 256 = 48 + (r : Int) := by omega
    have hc2 : ((48 : Int) + (m : Int)) % 256 = 48 + (m : Int) := by omega
    have hr9 : r < 10 := by omega
    have hm9 : m < 10 := by omega
    have HCV1 := fun X => conv_one X (48 + (r : Int)) (by omega)
    have HCV2 := fun X => conv_one X (48 + (m : Int)) (by omega)
    have hcat : ofBys [48 + (m : Int)] ++ ofBys [48 + (r : Int)] = ofBys [48 + (m : Int), 48 + (r : Int)] := by unfold ofBys; rfl
    have HB0 : Hid (∀ X y, Below w.heap.size w X → Below w.heap.size w (X.alloc (.cells #[.int .u8 y] 5))) := Lib.hid (fun X y hX => hX.alloc hX.size _)
    clear hr hm h10 h
    go_enter Tryz.func28, Tryz.ntmps28
    go_upto_region 2 with fail
    go_loopg [0, 3] 1 (fun gh s0 s3 X => (gh = 1 ∧ s0 = .int .i64 (n : Nat) ∧ s3 = .string ⟨#[]⟩ ∧ Aside (Below w.heap.size w X)) ∨ (gh = 0 ∧ s0 = .int .i64 (m : Nat) ∧ s3 = .string (ofBys [48 + (r : Int)]) ∧ Aside (Below w.heap.size w X)))
    case atStart => exact Or.inl ⟨rfl, rfl, rfl, Below.refl _ _⟩
    case round =>
      rcases hrel with ⟨hgh, rfl, rfl, hal⟩ | ⟨hgh, rfl, rfl, hal⟩
      · have HBK := Lib.hid hal.out
        clear hal
        go_wp2_with fail
        go_roundg 0
        case measure => omega
        case rel => exact Or.inr ⟨rfl, rfl, rfl, HB0.out _ _ HBK.out⟩
      · have HBK := Lib.hid hal.out
        clear hal
        go_wp2_with fail
        go_ret
        exact ⟨rfl, HB0.out _ _ HBK.out⟩
/-- An automaton of a text that is read and light enough. -/
def BlQ (t : Nd) (w : World) (x : Ending) (w' : World) : Prop := ∃ B gb, x = .returned (.pointer (some ⟨gb, 0, none⟩)) ∧ w.heap.size ≤ B ∧ GrAt B gb t.G.1 t.G.2 w' ∧ Below w.heap.size w w'
set_option maxRecDepth 100000 in
set_option maxHeartbeats 4000000 in
theorem bld_ok (cf : ByteArray → (Nat → Bool) × Bool) (e : Nat → Addr) (q : ByteArray) (hcf : BkC cf (bys q)) (n : Nat) (t : Nd) (k g : Nat) (w : World) (he : Es w w.heap.size e) (ht : Ety w) (hq : q.size ≤ 1048576) (hr : parseN cf (bys q) true n = some (.ok t k g)) (hW : t.W + 1 ≤ 4000) :
    Calls Tryz.prog 24 #[.string q] w (BlQ t w) := by
  have hok := parseN_okN (bys_byt q) hr
  have hsz := (parseN_fit (bys_byt q) hr).2
  obtain ⟨qc, W2, hcv, hsl2, hb2⟩ := conv_sl w q (by omega)
  have hcz : w.heap.size < W2.heap.size := by
    have h1 := run_bytes_of_string (P := Tryz.prog) w 9 22 5 q Tryz.underlying9 Tryz.underlying22 Tryz.underlying5
    rw [hcv] at h1
    simp only [Result.ok.injEq] at h1
    rw [h1.2]
    simp
  have HPA := Lib.hid (parse_any cf e _ (bys q) hcf true n (.ok t k g) W2 ⟨(he.below hb2).var, Nat.lt_of_lt_of_le he.low hb2.size, Nat.le_refl _⟩ (ht.below hb2) hsl2 (fun x o n cap hv => by
    simp only [Value.slice.injEq, Option.some.injEq, Addr.mk.injEq] at hv
    omega) hr)
  have HBU : Hid (∀ X p kv S, ReAt X p t kv g true → t.In X S kv → Calls Tryz.prog 13 #[.pointer (some ⟨p, 0, none⟩)] X (BuQ t X)) := Lib.hid (fun X p kv S hre hi => build_at S X p t kv g true hre (by omega) (by omega) hok.1 hok.2.2 hi hW)
  have HB2 := Lib.hid hb2
  unfold BuQ at HBU
  unfold ParP at HPA
  dsimp only at HPA
  unfold BlQ
  clear he ht hr hW hok hsz hsl2 hb2 hcz hcf
  go_enter Tryz.func24, Tryz.ntmps24
  go_wp2_with fail
  refine HPA.out.mono ?_
  rintro x w1 ⟨p, a, m, c, rfl, _, hrow, hin, hb1⟩
  have HT1 := Lib.hid (HBU.out w1 p _ _ hrow hin)
  have HB3 := Lib.hid (HB2.out.trans (hb1.mono HB2.out.size))
  clear hrow hin hb1 hcv
  go_wp2_with fail
  refine HT1.out.mono ?_
  rintro x w2 ⟨B, gb, rfl, hB, hg, hb⟩
  have HR := Lib.hid (And.intro (Nat.le_trans HB3.out.size hB) (And.intro hg (HB3.out.trans (hb.mono HB3.out.size))))
  clear hB hg hb
  go_wp2
  go_ret
  exact ⟨B, gb, rfl, HR.out⟩
end Go.Proofs.YtcceiblmdjbhjaaGreatDoor
/- NfaGrammars: its walk (gen_nfgr.py). -/
namespace Go.Proofs.YtcceiblmdjbhjaaGreatDoor
open Go.RowKit

/-- A row of bytes of one's own. -/
def OwB (B : Nat) (v : Value) (L : List Int) (w : World) : Prop := w.ownsRow B 5 1 v L.length (L.map (Value.int .u8))
theorem ownsRow_nilG (w : World) : OwB w.heap.size (.slice none 0 0) [] w := ⟨rfl, Or.inl ⟨rfl, rfl⟩⟩
theorem OwB.below' {B : Nat} {v : Value} {L : List Int} {w w' : World} (h : OwB B v L w) (hb : Below w.heap.size w w') : OwB B v L w' := own_same h fun _ _ _ hc => (blk_below hc hb).trans hc.symm
theorem OwB.sl {B : Nat} {v : Value} {L : List Int} {w : World} (h : OwB B v L w) (hb : Byt L) (hl : L.length ≤ 9223372036854775807) : Sl w v L := by
  refine ⟨hb, hl, ?_⟩
  obtain ⟨_, ⟨rfl, hz⟩ | ⟨g, cap, cu, rfl, hB, hg, hnc, hcm, hcs, htk⟩⟩ := h
  · rw [hz]
    exact Or.inl ⟨List.length_eq_zero_iff.1 hz, none, 0, rfl⟩
  · refine Or.inr ⟨g, 0, cap, rfl, hnc, by unfold maxLen at hcm; omega, fun i hi => ?_⟩
    rw [Lib.cell_of_heap hg, Nat.zero_add]
    have h1 : (cu.toList.take (L.length * 1))[i]? = (L.map (Value.int .u8))[i]? := by rw [htk]
    rw [List.getElem?_take, if_pos (by omega), List.getElem?_map, List.getElem?_eq_getElem hi] at h1
    rw [List.getD_eq_getElem?_getD, List.getElem?_eq_getElem hi]
    simpa using h1
theorem app_byte9 {w : World} {ops : Array Oper} {rest : List Oper} {o : Oper} {a : Act} {Q : Exit → Act → World → Prop} (hgd : o.guard = none) (s x : Operand)
    (ho : o.op = .call { callee := .builtin .append, args := #[s, x], argTypes := #[22, 22] })
    (B : Nat) (v : Value) (L : List Int) (hs : a.eval s = v) (hown : OwB B v L w) (c : Int) (gb : Nat) (hx : a.eval x = .slice (some ⟨gb, 0, none⟩) 1 1)
    (hgb : w.heap[gb]? = some (.cells #[.int .u8 c] 5 (0, 0))) (hlen : L.length ≤ 1048576) (hB : B ≤ w.heap.size)
    (h : ∀ v' w', OwB B v' (L ++ [c]) w' → Below B w w' → wpList Tryz.prog ops Q rest (a.put o.dst v') w') : wpList Tryz.prog ops Q (o :: rest) a w := by
  obtain ⟨i0, hi, hz0, hz1, hz2⟩ := info_parts byte_row
  refine wpList_append_own_at w hgd s x _ ho B 5 i0 (.int .u8 0) 1 1 Tryz.underlying22 hi hz0 hz1 hz2 rfl (by decide) v L.length (L.map (Value.int .u8)) hs hown ⟨gb, 0, none⟩ 1 1 [.int .u8 c] hx rfl ?_ (fun u hu => by rw [List.mem_singleton.1 hu]; rfl) (by unfold maxLen; omega) (by omega) hB ?_
  · intro j u hj
    rw [WideShapes.add_plain, Nat.zero_add, Lib.cell_of_heap hgb]
    simpa using hj
  · intro v' w' ho' hg' _ _
    refine h v' w' ?_ ((Below.refl B w).grown hg' hB (fun k hk => (hown.lt k hk).1))
    unfold OwB
    rw [List.length_append, List.length_singleton, List.map_append]
    exact ho'

end Go.Proofs.YtcceiblmdjbhjaaGreatDoor
