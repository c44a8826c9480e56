/- Slices of bytes from a place on, and up to one. -/
import Derived.Test.YtacfglopionkfaaGreatDoorKDg
namespace Go.Proofs.YtacfglopionkfaaGreatDoor
open Go.RowKit

/-- Where a slice's part from u on begins. -/
def cutR (a : Option Addr) (cap u : Nat) : Option Addr := if cap = u then a else Option.map (fun x => x.add u) a
theorem Sl.fromR {w : World} {a : Option Addr} {cap : Nat} {s : List Int} (h : Sl w (.slice a s.length cap) s) (u : Nat) (hu : u ≤ s.length) : Sl w (.slice (cutR a cap u) (s.length - u) (cap - u)) (s.drop u) := by
  rcases h.2.2 with ⟨rfl, a', cap', he⟩ | ⟨b, o, cap', he, hlc, hcm, hrow⟩
  · have hu0 : u = 0 := by simpa using hu
    subst hu0
    exact ⟨h.1, h.2.1, Or.inl ⟨rfl, _, _, rfl⟩⟩
  · simp only [Value.slice.injEq] at he
    obtain ⟨rfl, _, rfl⟩ := he
    by_cases hc : cap = u
    · have hd : s.drop u = [] := List.drop_of_length_le (by omega)
      rw [hd]
      exact ⟨fun i => by simp, by simp, Or.inl ⟨rfl, cutR (some ⟨b, o, none⟩) cap u, cap - u, by rw [show s.length - u = 0 by omega]⟩⟩
    · have e : cutR (some ⟨b, o, none⟩) cap u = some ⟨b, o + u, none⟩ := by unfold cutR; rw [if_neg hc]; simp [WideShapes.add_plain]
      rw [e]
      exact Sl.drop h.1 h.2.1 hlc hcm hrow u hu
theorem Sl.uptoR {w : World} {a : Option Addr} {n cap : Nat} {s : List Int} (h : Sl w (.slice a n cap) s) (x : Nat) (hx : x ≤ s.length) : Sl w (.slice a x cap) (s.take x) := by
  rcases h.2.2 with ⟨rfl, a', cap', he⟩ | ⟨b, o, cap', he, hlc, hcm, hrow⟩
  · have hx0 : x = 0 := by simpa using hx
    subst hx0
    exact ⟨h.1, h.2.1, Or.inl ⟨rfl, a, cap, rfl⟩⟩
  · simp only [Value.slice.injEq] at he
    obtain ⟨rfl, _, rfl⟩ := he
    have hl : (s.take x).length = x := by simp; omega
    refine ⟨fun i => ?_, by omega, Or.inr ⟨b, o, cap, by rw [hl], by omega, hcm, fun i hi => ?_⟩⟩
    · by_cases hi : i < x
      · have := h.1 i
        rwa [show (s.take x).getD i 0 = s.getD i 0 by simp [List.getD, hi]]
      · rw [List.getD, List.getElem?_eq_none (by omega)]; simp
    · rw [hl] at hi
      rw [show (s.take x).getD i 0 = s.getD i 0 by simp [List.getD, hi]]
      exact hrow i (by omega)
end Go.Proofs.YtacfglopionkfaaGreatDoor
