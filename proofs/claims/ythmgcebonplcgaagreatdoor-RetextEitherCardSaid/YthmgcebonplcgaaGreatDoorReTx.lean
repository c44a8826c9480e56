/- The text of a regular expression (pure). -/
import Derived.Test.YthmgcebonplcgaaGreatDoorKPu
import Derived.Test.YthmgcebonplcgaaGreatDoorSeFst
import Derived.Lib.ItoaNum
import Derived.Lib.ItoaLen
import Derived.Lib.ItoaMem
import Derived.Lib.SmallJoins
namespace Go.Proofs.YthmgcebonplcgaaGreatDoor
open Go.RowKit

def fullP (p : Nat → Bool) : Bool := (List.range 256).all fun c => p c
def maxT (n : Int) : List UInt8 := if n = -1 then [45] else Lib.itoa n
/-- The words ahead of a node's kids; none: it is no node. -/
def headT (kd mn mx gp : Int) : Option (List (List UInt8)) :=
  if kd = 4 then some [[99, 97, 116]]
  else if kd = 5 then some [[97, 108, 116]]
  else if kd = 6 then some [[114, 101, 112], Lib.itoa mn, maxT mx]
  else if kd = 7 then some [[103, 114, 111, 117, 112], Lib.itoa gp]
  else none
def parT (ws : List (List UInt8)) : List UInt8 := 40 :: (Lib.join ws [32] ++ [41])
def nodeT (kd : Int) (p : Nat → Bool) (mn mx gp : Int) (ws : List (List UInt8)) : List UInt8 :=
  if kd = 1 then (if fullP p = true then [46] else textL p)
  else if kd = 2 then [94]
  else if kd = 3 then [36]
  else match headT kd mn mx gp with
    | some h => parT (h ++ ws)
    | none => []
/-- The texts of a row of trees. -/
def Fo.txt : Fo → List (List UInt8)
  | .nil => []
  | .cons kd p mn mx gp kids rest => nodeT kd p mn mx gp kids.txt :: rest.txt
def Nd.txt (n : Nd) : List UInt8 := nodeT n.kd n.p n.mn n.mx n.gp n.kids.txt
theorem txt_fo : ∀ l : List Nd, (fo l).txt = l.map Nd.txt
  | [] => rfl
  | n :: r => by show nodeT n.kd n.p n.mn n.mx n.gp n.kids.txt :: (fo r).txt = _; rw [txt_fo r]; rfl
/-- How many trees there are in all. -/
def Fo.sz : Fo → Nat
  | .nil => 0
  | .cons _ _ _ _ _ kids rest => 1 + kids.sz + rest.sz
def Nd.sz (n : Nd) : Nat := 1 + n.kids.sz
def szL (l : List Nd) : Nat := (fo l).sz
theorem szL_app : ∀ (a b : List Nd), szL (a ++ b) = szL a + szL b
  | [], b => by show szL b = 0 + szL b; omega
  | n :: a, b => by
    have ih := szL_app a b
    unfold szL at *
    show 1 + n.kids.sz + (fo (a ++ b)).sz = 1 + n.kids.sz + (fo a).sz + (fo b).sz
    omega
theorem szL_one (n : Nd) : szL [n] = n.sz := by unfold szL; show 1 + n.kids.sz + 0 = _; rfl
theorem fo_sz_len : ∀ f : Fo, f.len ≤ f.sz
  | .nil => Nat.le_refl _
  | .cons _ _ _ _ _ kids rest => by
    have := fo_sz_len rest
    show rest.len + 1 ≤ 1 + kids.sz + rest.sz
    omega
theorem maxT_len (n : Int) (h : -9223372036854775808 ≤ n) (h' : n ≤ 9223372036854775807) : (maxT n).length ≤ 21 := by
  unfold maxT
  split
  · simp
  · exact Nat.le_trans (Lib.itoa_length_le n h h') (by omega)
/-- Numbers that fit. -/
def Fo.Fit : Fo → Prop
  | .nil => True
  | .cons _ _ mn mx gp kids rest => ((-9223372036854775808 ≤ mn ∧ mn ≤ 9223372036854775807) ∧ (-9223372036854775808 ≤ mx ∧ mx ≤ 9223372036854775807) ∧ (-9223372036854775808 ≤ gp ∧ gp ≤ 9223372036854775807)) ∧ kids.Fit ∧ rest.Fit
theorem headT_len {kd mn mx gp : Int} {h : List (List UInt8)} (he : headT kd mn mx gp = some h) (h1 : -9223372036854775808 ≤ mn ∧ mn ≤ 9223372036854775807) (h2 : -9223372036854775808 ≤ mx ∧ mx ≤ 9223372036854775807) (h3 : -9223372036854775808 ≤ gp ∧ gp ≤ 9223372036854775807) : Lib.lens h ≤ 60 ∧ h.length ≤ 3 ∧ 1 ≤ h.length := by
  have a := Lib.itoa_length_le mn h1.1 h1.2
  have b := maxT_len mx h2.1 h2.2
  have c := Lib.itoa_length_le gp h3.1 h3.2
  unfold headT at he
  split at he
  · cases he; simp [Lib.lens]
  split at he
  · cases he; simp [Lib.lens]
  split at he
  · cases he; simp [Lib.lens]; omega
  split at he
  · cases he; simp [Lib.lens]; omega
  · cases he
theorem lens_app (a b : List (List UInt8)) : Lib.lens (a ++ b) = Lib.lens a + Lib.lens b := by unfold Lib.lens; simp
theorem join_len (ws : List (List UInt8)) : (Lib.join ws [32]).length ≤ Lib.lens ws + ws.length := by
  cases ws with
  | nil => rw [Lib.join_nil]; simp
  | cons x r =>
    rw [Lib.join_length]
    simp only [List.length_cons, List.length_nil]
    omega
theorem txt_lens : ∀ f : Fo, f.Fit → Lib.lens f.txt + f.len ≤ 2000 * f.sz ∧ f.txt.length = f.len
  | .nil, _ => ⟨by simp [Fo.txt, Lib.lens, Fo.len, Fo.sz], rfl⟩
  | .cons kd p mn mx gp kids rest, ⟨⟨h1, h2, h3⟩, h4, h5⟩ => by
    have a := txt_lens kids h4
    have b := txt_lens rest h5
    have c : (nodeT kd p mn mx gp kids.txt).length ≤ 1999 + 2000 * kids.sz := by
      unfold nodeT
      have ht := textL_len p
      split
      · split
        · simp only [List.length_singleton]; omega
        · omega
      split
      · simp only [List.length_singleton]; omega
      split
      · simp only [List.length_singleton]; omega
      cases hh : headT kd mn mx gp with
      | none => simp
      | some h =>
        have d := headT_len hh h1 h2 h3
        have e := join_len (h ++ kids.txt)
        rw [lens_app, List.length_append, a.2] at e
        have f := a.1
        dsimp only
        unfold parT
        rw [List.length_cons, List.length_append, List.length_singleton]
        omega
    refine ⟨?_, by show (rest.txt).length + 1 = rest.len + 1; rw [b.2]⟩
    have e : Lib.lens (Fo.txt (.cons kd p mn mx gp kids rest)) = (nodeT kd p mn mx gp kids.txt).length + Lib.lens rest.txt := by
      show Lib.lens (_ :: _) = _
      unfold Lib.lens
      simp
    rw [e]
    have := b.1
    show _ + (rest.len + 1) ≤ 2000 * (1 + kids.sz + rest.sz)
    rw [Nat.mul_add, Nat.mul_add]
    omega

/-! ### Of what was read -/
theorem sz_join (kd : Int) (l : List Nd) : (joinN kd l).sz ≤ 1 + szL l := by
  unfold joinN
  split
  · rw [szL_one]; omega
  · show 1 + (fo l).sz ≤ _
    exact Nat.le_refl _
theorem sz_rep (l : List Nd) (m n : Int) : szL (repL l m n) ≤ szL l + 1 := by
  unfold repL
  cases hx : l.getLast? with
  | none => simp
  | some x =>
    have e : l = l.dropLast ++ [x] := by
      have hne : l ≠ [] := fun e => by rw [e] at hx; cases hx
      have := List.dropLast_concat_getLast hne
      rw [List.getLast?_eq_some_getLast hne] at hx
      rw [← Option.some.inj hx]
      exact this.symm
    dsimp only
    conv => rhs; rw [e]
    rw [szL_app, szL_app, szL_one, szL_one]
    show _ + (1 + szL [x]) ≤ _
    rw [szL_one]
    omega
def RM.sz (md : RM) : Nat := szL md.list
def RM.ad : RM → Nat
  | .re _ => 2
  | .br _ => 1
theorem rdR_sz (cf : ByteArray → (Nat → Bool) × Bool) (l : List Int) (ext : Bool) (n : Nat) (md : RM) (k g o : Nat) (t : Nd) (k1 g1 : Nat) (h : rdR cf l ext n md k g o = some (.ok t k1 g1)) (hk : k ≤ l.length) : t.sz ≤ md.sz + 4 * (k1 - k) + md.ad := by
  have key := rdR_ind cf l ext (fun md k _ _ r => k ≤ l.length → ∀ t k1 g1, r = .ok t k1 g1 → (k ≤ k1 ∧ k1 ≤ l.length) ∧ t.sz ≤ md.sz + 4 * (k1 - k) + md.ad) ?_ ?_ ?_ ?_ ?_ ?_ ?_ ?_ ?_ ?_ ?_ ?_ ?_ ?_ ?_ n md k g o _ h
  · exact (key hk t k1 g1 rfl).2
  · intro bs k g o c p _ _ t k1 g1 e; cases e
  · intro bs k g o b k1 g1 r h1 h4 h2 hk t k2 g2 e
    obtain ⟨a, a'⟩ := h1 hk _ _ _ rfl
    have b := sg_nx cf l ext k1 a.2
    have b' := sg_gt cf l ext k1 a.2 (by omega)
    obtain ⟨c, c'⟩ := h2 b.2 _ _ _ e
    simp only [RM.sz, RM.list, RM.ad] at a' c' ⊢
    rw [szL_app, szL_one] at c'
    have z : szL [] = 0 := rfl
    rw [z] at a'
    exact ⟨by omega, by omega⟩
  · intro bs k g o b k1 g1 h1 _ hk t k2 g2 e
    obtain ⟨a, a'⟩ := h1 hk _ _ _ rfl
    cases e
    have c := sz_join 5 (bs ++ [b])
    rw [szL_app, szL_one] at c
    simp only [RM.sz, RM.list, RM.ad] at a' ⊢
    have z : szL [] = 0 := rfl
    rw [z] at a'
    exact ⟨a, by omega⟩
  · intro k g o _ _ t k1 g1 e; cases e
  · intro items k g o _ _ hk t k1 g1 e
    cases e
    have c := sz_join 4 items
    simp only [RM.sz, RM.list, RM.ad]
    exact ⟨⟨Nat.le_refl _, hk⟩, by omega⟩
  · intro items k g o r h0 _ h2 hk t k1 g1 e
    have b := sg_nx cf l ext k hk
    have b' := sg_gt cf l ext k hk (not_end h0).2.2
    obtain ⟨c, c'⟩ := h2 b.2 _ _ _ e
    simp only [RM.sz, RM.list, RM.ad] at c' ⊢
    rw [szL_app, szL_one] at c'
    have z : (setN (mem (sg cf l ext k).tx)).sz = 1 := rfl
    rw [z] at c'
    exact ⟨by omega, by omega⟩
  · intro items k g o _ _ _ t k1 g1 e; cases e
  · intro items k g o c p _ _ _ _ t k1 g1 e; cases e
  · intro items k g o r h0 _ _ h2 hk t k1 g1 e
    have b := sg_nx cf l ext k hk
    have b' := sg_gt cf l ext k hk (by omega)
    obtain ⟨c, c'⟩ := h2 b.2 _ _ _ e
    simp only [RM.sz, RM.list, RM.ad] at c' ⊢
    have d := sz_rep items (sg cf l ext k).lo (sg cf l ext k).hi
    exact ⟨by omega, by omega⟩
  · intro items k g o _ _ _ t k1 g1 e; cases e
  · intro items k g o c p _ _ _ _ t k1 g1 e; cases e
  · intro items k g o t k1 g1 _ _ _ _ _ t' k2 g2 e; cases e
  · intro items k g o t k1 g1 r h2' h9 h1 h3 h2 hk t' k2 g2 e
    have a := sg_nx cf l ext k hk
    have a' := sg_gt cf l ext k hk (by omega)
    obtain ⟨b, b'⟩ := h1 a.2 _ _ _ rfl
    have c := sg_nx cf l ext k1 b.2
    have c' := sg_gt cf l ext k1 b.2 (by omega)
    obtain ⟨d, d'⟩ := h2 c.2 _ _ _ e
    simp only [RM.sz, RM.list, RM.ad] at b' d' ⊢
    rw [szL_app, szL_one] at d'
    have z : (grpN (g + 1 : Nat) t).sz = 1 + t.sz := by show 1 + szL [t] = _; rw [szL_one]
    have z0 : szL [] = 0 := rfl
    rw [z] at d'
    rw [z0] at b'
    exact ⟨by omega, by omega⟩
  · intro items k g o c p _ _ _ _ _ t k1 g1 e; cases e
  · intro items k g o r h0 h1 h2' he _ h2 hk t k1 g1 e
    have b := sg_nx cf l ext k hk
    have b' := sg_gt cf l ext k hk (not_end h0).2.2
    obtain ⟨c, c'⟩ := h2 b.2 _ _ _ e
    simp only [RM.sz, RM.list, RM.ad] at c' ⊢
    rw [szL_app, szL_one] at c'
    have z : ((sg cf l ext k).nd).sz = 1 := by unfold Nd.sz; rw [(sg_nd cf l ext k h0 h1 h2' he).2]; rfl
    rw [z] at c'
    exact ⟨by omega, by omega⟩
end Go.Proofs.YthmgcebonplcgaaGreatDoor
