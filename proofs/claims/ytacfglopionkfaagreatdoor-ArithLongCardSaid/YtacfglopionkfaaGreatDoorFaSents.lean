/- From the row's condition to the sentinels' variables: what all rows that list them want. -/
import Derived.Test.YtacfglopionkfaaGreatDoorProg
import Derived.Test.YtacfglopionkfaaGreatDoorRows
import Derived.WalkKit
import Derived.ProofKit
import Derived.LaidMore
import Derived.Stop.Joined
namespace Go.Proofs.YtacfglopionkfaaGreatDoor
open Go.RowKit Go.Extern.Stop Go.Stop Go.Extern

theorem Tryz.star : "*" ++ "errors.errorString" = "*errors.errorString" := by decide
theorem Tryz.rowE (u : TypeId) (h : Tryz.prog.typeName? 3 u = some "*errors.errorString") : u = 276 :=
  typeName_ptr_named (nm := "errors.errorString") (by rw [Tryz.star]; kernel_rfl) (by kernel_rfl) (by decide) u (by rw [Tryz.star]; exact h)
theorem Tryz.cellsE : Tryz.prog.cellsOf 294 = 1 := by kernel_rfl
theorem Tryz.cellsS : Tryz.prog.cellsOf 9 = 1 := by kernel_rfl

/-- A sentinel sl listed. -/
def sd (x : String × List UInt8) : String × DataW Unit := (x.1, .iface "*errors.errorString" (.ptr (.agg [.lit (.string x.2)])))

set_option maxRecDepth 100000 in
/-- What a list of sentinels gives: their pointers, one for each name, and where they lie. -/
theorem sents_of {W : World} {all : List MemPlace} (hrows : ∀ b off, MemPlace.cell b off ∈ all →
      (∃ c t, W.heap[b]? = some (.cells c t (0, 0))) ∧ ∀ u v, W.cell? ⟨b, off, none⟩ = some (.iface u v) → Value.okWide Tryz.prog W .any 0 u v) :
    ∀ (L : List (String × List UInt8)), (∀ x ∈ L, ∃ g, Tryz.prog.globalNamed x.1 = some g ∧ (Tryz.prog.globals[g]?).map (·.type) = some 25) → ∀ (ps : List MemPlace), DataW.LaidVars Tryz.prog W (L.map sd) ps → (∀ q ∈ ps, q ∈ all) → ps.Nodup →
      ∃ sl : List Addr, sl.length = L.length ∧ (sl.map fun a => MemPlace.cell a.block a.off).Nodup ∧ (∀ a ∈ sl, MemPlace.cell a.block a.off ∈ ps) ∧
        ∀ (i : Nat) (x : String × List UInt8), L[i]? = some x → ∃ a, sl[i]? = some a ∧ W.var? Tryz.prog x.1 = some #[.iface 276 (.pointer (some a))]
  | [], _, _, _, _, _ => ⟨[], rfl, by simp, by simp, by simp⟩
  | x :: L, hL, ps, h, hin, hnd => by
    obtain ⟨g0, t0, cs0, f0, p0, q0, hg0, ht0, hv0, hd0, hq0, e0⟩ := h
    obtain ⟨g, hg, hgt⟩ := hL x (by simp)
    obtain rfl := Option.some.inj (hg.symm.trans hg0)
    obtain rfl := Option.some.inj (hgt.symm.trans ht0)
    subst e0
    obtain ⟨l0⟩ := cs0
    have ok0 : ∀ u v, l0 = [.iface u v] → Value.okWide Tryz.prog W .any 0 u v := fun u v e => by
      subst e
      exact (hrows g 0 (hin _ (by simp [MemPlace.row]))).2 u v (by simpa using World.var?_cell hg hv0 0)
    obtain ⟨a0, s0, rfl, hc0, hs0, hz0, rfl⟩ := errorString_of_trod Tryz.underlying25 Tryz.rowE Tryz.underlying276 Tryz.underlying294 rfl rfl Tryz.underlying9 Tryz.cellsE Tryz.cellsS hd0 ok0
    have hnq : q0.Nodup := (List.nodup_append.1 hnd).2.1
    obtain ⟨sl, hlen, hn, hmem, hall⟩ := sents_of hrows L (fun y hy => hL y (by simp [hy])) q0 hq0 (fun q hq => hin q (by simp [hq])) hnq
    refine ⟨a0 :: sl, by simp [hlen], ?_, ?_, ?_⟩
    · simp only [List.map_cons, List.nodup_cons]
      refine ⟨fun hm => ?_, hn⟩
      obtain ⟨b, hb, he⟩ := List.mem_map.1 hm
      have h1 := hmem b hb
      rw [he] at h1
      exact (List.nodup_append.1 hnd).2.2 (MemPlace.cell a0.block a0.off) (by simp [MemPlace.row]) _ h1 rfl
    · intro a ha
      rcases List.mem_cons.1 ha with rfl | ha
      · simp [MemPlace.row]
      · have := hmem a ha; simp [this]
    · intro i y hy
      cases i with
      | zero => simp at hy; subst hy; exact ⟨a0, rfl, hv0⟩
      | succ i => simpa using hall i y (by simpa using hy)

/-- The codes' names, in order. -/
def sentNames : List (String × List UInt8) := [("pidgin/fault.errArg", [97, 114, 103, 117, 109, 101, 110, 116]), ("pidgin/fault.errLong", [108, 111, 110, 103]), ("pidgin/fault.errSyntax", [115, 121, 110, 116, 97, 120]), ("pidgin/fault.errDeep", [100, 101, 101, 112]), ("pidgin/fault.errMany", [109, 97, 110, 121]), ("pidgin/fault.errNumber", [110, 117, 109, 98, 101, 114]), ("pidgin/fault.errRange", [114, 97, 110, 103, 101]), ("pidgin/fault.errBracket", [98, 114, 97, 99, 107, 101, 116]), ("pidgin/fault.errGroup", [103, 114, 111, 117, 112]), ("pidgin/fault.errEscape", [101, 115, 99, 97, 112, 101]), ("pidgin/fault.errStates", [115, 116, 97, 116, 101, 115]), ("pidgin/fault.errDivide", [100, 105, 118, 105, 100, 101]), ("pidgin/fault.errValue", [118, 97, 108, 117, 101]), ("pidgin/fault.errOperand", [111, 112, 101, 114, 97, 110, 100]), ("pidgin/fault.errName", [110, 97, 109, 101]), ("pidgin/fault.errFile", [102, 105, 108, 101]), ("pidgin/fault.errDir", [100, 105, 114]), ("pidgin/fault.errExists", [101, 120, 105, 115, 116, 115]), ("pidgin/fault.errFull", [102, 117, 108, 108]), ("pidgin/fault.errLabel", [108, 97, 98, 101, 108]), ("pidgin/fault.errFuel", [102, 117, 101, 108])]

theorem sent_globals : ∀ x ∈ sentNames, ∃ g, Tryz.prog.globalNamed x.1 = some g ∧ (Tryz.prog.globals[g]?).map (·.type) = some 25 := by
  have h : (sentNames.all fun x => (match Tryz.prog.globalNamed x.1 with | some g => (Tryz.prog.globals[g]?).map (·.type) == some 25 | none => false)) = true := by kernel_rfl
  intro x hx
  have := List.all_eq_true.1 h x hx
  cases hg : Tryz.prog.globalNamed x.1 with
  | none => rw [hg] at this; exact absurd this (by simp)
  | some g => rw [hg] at this; exact ⟨g, rfl, by simpa using this⟩

theorem sent_places : (sentNames.map fun x => Tryz.prog.globalNamed x.1) = (List.range 21).map some := by kernel_rfl

end Go.Proofs.YtacfglopionkfaaGreatDoor
