/- Appends to a row of one's own: any slice of bytes, a literal (gen_reapp.py, of XGlApp). -/
import Derived.Test.YthmgcebonplcgaaGreatDoorKMk
import Derived.Laws.AppendOwnNone
import Derived.Laws.AppendOwn
import Derived.Maps.AppendAt
namespace Go.Proofs.YthmgcebonplcgaaGreatDoor
open Go.RowKit

theorem Sl.shape {w : World} {v : Value} {l : List Int} (h : Sl w v l) : (l = [] ∧ ∃ a cap, v = .slice a 0 cap) ∨ ∃ b o cap, v = .slice (some ⟨b, o, none⟩) l.length cap ∧ l.length ≤ cap ∧ cap ≤ 9223372036854775807 := by
  rcases h.2.2 with ⟨rfl, a, cap, rfl⟩ | ⟨b, o, cap, rfl, h1, h2, _⟩
  · exact Or.inl ⟨rfl, a, cap, rfl⟩
  · exact Or.inr ⟨b, o, cap, rfl, h1, h2⟩
theorem Sl.lenR {w : World} {a : Option Addr} {n cap : Nat} {s : List Int} (h : Sl w (.slice a n cap) s) : s.length = n := by
  rcases h.2.2 with ⟨rfl, a', cap', he⟩ | ⟨b, o, cap', he, hlc, hcm, hrow⟩ <;> simp only [Value.slice.injEq] at he
  · exact he.2.1.symm
  · exact he.2.1.symm
theorem app_bytes {w : World} {ops : Array Oper} {rest : List Oper} {o : Oper} {a : Act} {Q : Exit → Act → World → Prop} (hgd : o.guard = none) (s x : Operand)
    (ho : o.op = .call { callee := .builtin .append, args := #[s, x], argTypes := #[22, 22] })
    (base : Nat) (v : Value) (n : Nat) (xs : List Value) (hs : a.eval s = v) (hown : w.ownsRow base 5 1 v n xs) (vx : Value) (l : List Int) (hx : a.eval x = vx) (hsl : Sl w vx l) (hnil : ∀ n c, vx = .slice none n c → n = 0 ∧ c = 0)
    (h63 : n + l.length ≤ 1048576) (hbase : base ≤ w.heap.size)
    (h : ∀ v' w', w'.ownsRow base 5 1 v' (n + l.length) (xs ++ l.map (Value.int .u8)) → Below base w w' → wpList Tryz.prog ops Q rest (a.put o.dst v') w') : wpList Tryz.prog ops Q (o :: rest) a w := by
  obtain ⟨i0, hi, hz0, hz1, hz2⟩ := info_parts byte_row
  have key : ∀ ad c, vx = .slice (some ad) l.length c → wpList Tryz.prog ops Q (o :: rest) a w := fun ad c e => by
    subst e
    exact wpList_append_own w hgd s x _ ho base 5 i0 (.int .u8 0) 1 1 Tryz.underlying22 hi hz0 hz1 hz2 rfl (by decide) v n xs hs hown ad l.length c (l.map (Value.int .u8)) hx (by simp) (newsB hsl).2 (oneB l) (by unfold maxLen; omega) (by omega) hbase
      (fun v' w' h1 h2 _ => h v' w' h1 ((Below.refl base w).grown h2 hbase (fun k hk => (hown.lt k hk).1)))
  rcases hsl.shape with ⟨rfl, ad, cap, e⟩ | ⟨b, of, cap, e, _, _⟩
  · cases ad with
    | some ad => exact key ad cap e
    | none =>
      obtain ⟨_, hc⟩ := hnil 0 cap e
      subst hc
      exact wpList_append_own_none hgd s x _ ho base 5 i0 1 Tryz.underlying22 hi v n xs hs hown (by rw [hx, e]) (h v w (by simpa using hown) (Below.refl _ _))
  · exact key _ cap e

theorem app_lit {w : World} {ops : Array Oper} {rest : List Oper} {o : Oper} {a : Act} {Q : Exit → Act → World → Prop} (hgd : o.guard = none) (s x : Operand)
    (ho : o.op = .call { callee := .builtin .append, args := #[s, x], argTypes := #[22, 22] })
    (base : Nat) (v : Value) (n : Nat) (L : List Int) (hs : a.eval s = v) (hown : w.ownsRow base 5 1 v n (L.map (Value.int .u8))) (g m c : Nat) (l : List Int) (hx : a.eval x = .slice (some ⟨g, 0, none⟩) m c) (hm : l.length = m)
    (hnews : ∀ j u, (l.map (Value.int .u8))[j]? = some u → w.cell? ((⟨g, 0, none⟩ : Addr).add j) = some u)
    (h63 : n + m ≤ 1048576) (hbase : base ≤ w.heap.size)
    (h : ∀ v' w', w'.ownsRow base 5 1 v' (n + m) ((L ++ l).map (Value.int .u8)) → Below base w w' → (∀ g, g < w.heap.size → v.ownBlock ≠ some g → v'.ownBlock ≠ some g ∧ w'.heap[g]? = w.heap[g]?) → wpList Tryz.prog ops Q rest (a.put o.dst v') w') : wpList Tryz.prog ops Q (o :: rest) a w := by
  obtain ⟨i0, hi, hz0, hz1, hz2⟩ := info_parts byte_row
  refine wpList_append_own_at w hgd s x _ ho base 5 i0 (.int .u8 0) 1 1 Tryz.underlying22 hi hz0 hz1 hz2 rfl (by decide) v n _ hs hown ⟨g, 0, none⟩ m c (l.map (Value.int .u8)) hx (by simp [hm]) hnews (oneB l) (by unfold maxLen; omega) (by omega) hbase
      (fun v' w' h1 h2 _ h4 => h v' w' (by rw [List.map_append]; exact h1) ((Below.refl base w).grown h2 hbase (fun k hk => (hown.lt k hk).1)) (fun g hg hne => ⟨?_, h2.block g hg (fun e => hne e.symm)⟩))
  rcases h4 with h4 | h4
  · rw [h4]; exact hne
  · rw [h4]
    intro e
    obtain rfl := Option.some.inj e
    exact Nat.lt_irrefl _ hg
theorem news1 (X : World) (c : Int) (z : Nat × Nat) : ∀ j u, ([c].map (Value.int .u8))[j]? = some u → (X.alloc (.cells #[.int .u8 c] 5 z)).cell? ((⟨X.heap.size, 0, none⟩ : Addr).add j) = some u := by
  intro j u hj
  have hb := alloc_last X (.cells #[.int .u8 c] 5 z)
  match j, hj with
  | 0, hj =>
    simp at hj
    subst hj
    rw [WideShapes.add_plain]
    exact cell_of_row _ _ _ _ _ _ hb
end Go.Proofs.YthmgcebonplcgaaGreatDoor
