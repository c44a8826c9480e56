/- KPl: several texts in one (kmerge.py). -/
import Derived.Test.YthmgcebonplcgaaGreatDoorReO
import Derived.Test.YthmgcebonplcgaaGreatDoorKTb
import Derived.Test.YthmgcebonplcgaaGreatDoorKPu
import Derived.Test.YthmgcebonplcgaaGreatDoorKFb
import Derived.Test.YthmgcebonplcgaaGreatDoorSeCxB
import Derived.Test.YthmgcebonplcgaaGreatDoorScOpen
/- RetextPlaces: its walk, opened. -/
namespace Go.Proofs.YthmgcebonplcgaaGreatDoor
open Go.RowKit

theorem snt_es {w : World} {e : Nat → Addr} (h : Snt w e) : Es w w.heap.size e := ⟨h.var, by have := h.low; omega, Nat.le_refl _⟩
/-- What Tell says of an error that Parse told. -/
theorem tell_errS {e : Nat → Addr} {lg : Int} {c : Nat} {p : Int} {v : Value} {B : Nat} {w : World} (hs : Snt w e) (h1 : 1 ≤ c) (h2 : c ≤ 21) (her : ErrS w B e lg c p v) :
    Calls Tryz.prog 6 #[v] w fun x w' => x = .returned (.agg #[.int .i64 c, .int .i64 p, .int .i64 lg]) ∧ Below w.heap.size w w' := by
  have := tell_any [(true, lg), (false, p)] v (e c) e c w hs (hs.rt c h1 h2) her.chn
  simpa [firstOf] using this
theorem parse_codes {cf : ByteArray → (Nat → Bool) × Bool} {l : List Int} {ext : Bool} {n c p : Nat} (h : parseN cf l ext n = some (.bad c p)) : 1 ≤ c ∧ c ≤ 10 ∧ p ≤ l.length ∧ (c = 2 ↔ 256 < l.length) := by
  rcases parseN_pos h with ⟨rfl, rfl, h3⟩ | ⟨h1, h2, h3⟩
  · exact ⟨by omega, by omega, by omega, fun _ => h3, fun _ => rfl⟩
  · exact ⟨by omega, by omega, h3, fun e => by omega, fun e => by omega⟩
end Go.Proofs.YthmgcebonplcgaaGreatDoor
/- The laws over bytes opened: where a slice that comes in lies; RetextPlaces. -/
namespace Go.Proofs.YthmgcebonplcgaaGreatDoor
open Go.RowKit

set_option maxRecDepth 100000 in
theorem okw_block {W : World} {base : Nat} {v : Value} (k0 : Value.okWide Tryz.prog W .any base 22 v) : ∀ x o n cap, v = .slice (some ⟨x, o, none⟩) n cap → x < W.heap.size := by
  intro x o n cap e
  subst e
  simp only [Value.okWide, Tryz.underlying22, Cell.okWide, Cell.ok] at k0
  obtain ⟨_, _, _, _, row, cells, hs, _⟩ := k0
  unfold World.shape? at hs
  cases h : W.heap[x]? with
  | none => simp [h] at hs
  | some o => exact (Array.getElem?_eq_some_iff.1 h).1
end Go.Proofs.YthmgcebonplcgaaGreatDoor
