import Derived.Test.YtnpkcllbpnmabaaGreatDoorKPu
import Derived.Test.YtnpkcllbpnmabaaGreatDoorSeBel
import Derived.Lib.TrailingZeros
import Derived.Test.YtnpkcllbpnmabaaGreatDoorKSy
import Derived.Test.YtnpkcllbpnmabaaGreatDoorScMath
import Derived.Test.YtnpkcllbpnmabaaGreatDoorScConv
import Derived.Lib.Join
import Derived.Lib.ItoaNum
import Derived.Lib.ItoaLen
import Derived.Lib.ItoaMem
import Derived.Lib.SmallJoins
namespace Go.Proofs.YtnpkcllbpnmabaaGreatDoor
open Go.RowKit
def Fo.sz : Fo → Nat
 | .nil => 0
 | .cons _ _ _ _ _ kids rest => 1 + kids.sz + rest.sz
def Nd.sz (n : Nd) : Nat := 1 + n.kids.sz
def szL (l : List Nd) : Nat := (fo l).sz
theorem szL_app : ∀ (a b : List Nd), szL (a ++ b) = szL a + szL b
 | [], b => by show szL b = 0 + szL b; omega
 | n :: a, b => by
  have ih := szL_app a b
  unfold szL at *
  show 1 + n.kids.sz + (fo (a ++ b)).sz = 1 + n.kids.sz + (fo a).sz + (fo b).sz
  omega
theorem szL_one (n : Nd) : szL [n] = n.sz := by unfold szL; show 1 + n.kids.sz + 0 = _; rfl
theorem fo_sz_len : ∀ f : Fo, f.len ≤ f.sz
 | .nil => Nat.le_refl _
 | .cons _ _ _ _ _ kids rest => by
  have := fo_sz_len rest
  show rest.len + 1 ≤ 1 + kids.sz + rest.sz
  omega
def Fo.Fit : Fo → Prop
 | .nil => True
 | .cons _ _ mn mx gp kids rest => ((-9223372036854775808 ≤ mn ∧ mn ≤ 9223372036854775807) ∧ (-9223372036854775808 ≤ mx ∧ mx ≤ 9223372036854775807) ∧ (-9223372036854775808 ≤ gp ∧ gp ≤ 9223372036854775807)) ∧ kids.Fit ∧ rest.Fit
theorem sz_join (kd : Int) (l : List Nd) : (joinN kd l).sz ≤ 1 + szL l := by
 unfold joinN
 split
 ·rw [szL_one]; omega
 ·show 1 + (fo l).sz ≤ _
  exact Nat.le_refl _
theorem sz_rep (l : List Nd) (m n : Int) : szL (repL l m n) ≤ szL l + 1 := by
 unfold repL
 cases hx : l.getLast? with
 | none => simp
 | some x =>
  have e : l = l.dropLast ++ [x] := by
   have hne : l ≠ [] := fun e => by rw [e] at hx; cases hx
   have := List.dropLast_concat_getLast hne
   rw [List.getLast?_eq_some_getLast hne] at hx
   rw [← Option.some.inj hx]
   exact this.symm
  dsimp only
  conv => rhs; rw [e]
  rw [szL_app, szL_app, szL_one, szL_one]
  show _ + (1 + szL [x]) ≤ _
  rw [szL_one]
  omega
def RM.sz (md : RM) : Nat := szL md.list
def RM.ad : RM → Nat
 | .re _ => 2
 | .br _ => 1
theorem rdR_sz (cf : ByteArray → (Nat → Bool) × Bool) (l : List Int) (ext : Bool) (n : Nat) (md : RM) (k g o : Nat) (t : Nd) (k1 g1 : Nat) (h : rdR cf l ext n md k g o = some (.ok t k1 g1)) (hk : k ≤ l.length) : t.sz ≤ md.sz + 4 * (k1 - k) + md.ad := by
 have key := rdR_ind cf l ext (fun md k _ _ r => k ≤ l.length → ∀ t k1 g1, r = .ok t k1 g1 → (k ≤ k1 ∧ k1 ≤ l.length) ∧ t.sz ≤ md.sz + 4 * (k1 - k) + md.ad) ?_ ?_ ?_ ?_ ?_ ?_ ?_ ?_ ?_ ?_ ?_ ?_ ?_ ?_ ?_ n md k g o _ h
 ·exact (key hk t k1 g1 rfl).2
 ·intro bs k g o c p _ _ t k1 g1 e; cases e
 ·intro bs k g o b k1 g1 r h1 h4 h2 hk t k2 g2 e
  obtain ⟨a, a'⟩ := h1 hk _ _ _ rfl
  have b := sg_nx cf l ext k1 a.2
  have b' := sg_gt cf l ext k1 a.2 (by omega)
  obtain ⟨c, c'⟩ := h2 b.2 _ _ _ e
  simp only [RM.sz, RM.list, RM.ad] at a' c' ⊢
  rw [szL_app, szL_one] at c'
  have z : szL [] = 0 := rfl
  rw [z] at a'
  exact ⟨by omega, by omega⟩
 ·intro bs k g o b k1 g1 h1 _ hk t k2 g2 e
  obtain ⟨a, a'⟩ := h1 hk _ _ _ rfl
  cases e
  have c := sz_join 5 (bs ++ [b])
  rw [szL_app, szL_one] at c
  simp only [RM.sz, RM.list, RM.ad] at a' ⊢
  have z : szL [] = 0 := rfl
  rw [z] at a'
  exact ⟨a, by omega⟩
 ·intro k g o _ _ t k1 g1 e; cases e
 ·intro items k g o _ _ hk t k1 g1 e
  cases e
  have c := sz_join 4 items
  simp only [RM.sz, RM.list, RM.ad]
  exact ⟨⟨Nat.le_refl _, hk⟩, by omega⟩
 ·intro items k g o r h0 _ h2 hk t k1 g1 e
  have b := sg_nx cf l ext k hk
  have b' := sg_gt cf l ext k hk (not_end h0).2.2
  obtain ⟨c, c'⟩ := h2 b.2 _ _ _ e
  simp only [RM.sz, RM.list, RM.ad] at c' ⊢
  rw [szL_app, szL_one] at c'
  have z : (setN (mem (sg cf l ext k).tx)).sz = 1 := rfl
  rw [z] at c'
  exact ⟨by omega, by omega⟩
 ·intro items k g o _ _ _ t k1 g1 e; cases e
 ·intro items k g o c p _ _ _ _ t k1 g1 e; cases e
 ·intro items k g o r h0 _ _ h2 hk t k1 g1 e
  have b := sg_nx cf l ext k hk
  have b' := sg_gt cf l ext k hk (by omega)
  obtain ⟨c, c'⟩ := h2 b.2 _ _ _ e
  simp only [RM.sz, RM.list, RM.ad] at c' ⊢
  have d := sz_rep items (sg cf l ext k).lo (sg cf l ext k).hi
  exact ⟨by omega, by omega⟩
 ·intro items k g o _ _ _ t k1 g1 e; cases e
 ·intro items k g o c p _ _ _ _ t k1 g1 e; cases e
 ·intro items k g o t k1 g1 _ _ _ _ _ t' k2 g2 e; cases e
 ·intro items k g o t k1 g1 r h2' h9 h1 h3 h2 hk t' k2 g2 e
  have a := sg_nx cf l ext k hk
  have a' := sg_gt cf l ext k hk (by omega)
  obtain ⟨b, b'⟩ := h1 a.2 _ _ _ rfl
  have c := sg_nx cf l ext k1 b.2
  have c' := sg_gt cf l ext k1 b.2 (by omega)
  obtain ⟨d, d'⟩ := h2 c.2 _ _ _ e
  simp only [RM.sz, RM.list, RM.ad] at b' d' ⊢
  rw [szL_app, szL_one] at d'
  have z : (grpN (g + 1 : Nat) t).sz = 1 + t.sz := by show 1 + szL [t] = _; rw [szL_one]
  have z0 : szL [] = 0 := rfl
  rw [z] at d'
  rw [z0] at b'
  exact ⟨by omega, by omega⟩
 ·intro items k g o c p _ _ _ _ _ t k1 g1 e; cases e
 ·intro items k g o r h0 h1 h2' he _ h2 hk t k1 g1 e
  have b := sg_nx cf l ext k hk
  have b' := sg_gt cf l ext k hk (not_end h0).2.2
  obtain ⟨c, c'⟩ := h2 b.2 _ _ _ e
  simp only [RM.sz, RM.list, RM.ad] at c' ⊢
  rw [szL_app, szL_one] at c'
  have z : ((sg cf l ext k).nd).sz = 1 := by unfold Nd.sz; rw [(sg_nd cf l ext k h0 h1 h2' he).2]; rfl
  rw [z] at c'
  exact ⟨by omega, by omega⟩
end Go.Proofs.YtnpkcllbpnmabaaGreatDoor
