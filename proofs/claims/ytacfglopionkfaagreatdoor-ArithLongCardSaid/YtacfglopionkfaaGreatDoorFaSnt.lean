/- From the row's condition to the sentinels' structure, errors' own variable with it; tables ahead of them or not. -/
import Derived.Test.YtacfglopionkfaaGreatDoorKFa
import Derived.Test.YtacfglopionkfaaGreatDoorFaSents
import Derived.Test.YtacfglopionkfaaGreatDoorKWr
import Derived.Test.YtacfglopionkfaaGreatDoorArErr
import Derived.Stop.LaidErr
import Derived.Lib.LaidTab
namespace Go.Proofs.YtacfglopionkfaaGreatDoor
open Go.RowKit Go.Extern.Stop Go.Stop Go.Extern

theorem Tryz.etn2 : Tryz.prog.globalNamed "errors.errorType" = some 21 := by kernel_rfl
theorem Tryz.rtn2 : (Tryz.prog.cutTypes.find? (·.1 == "internal/reflectlite.rtype")).map (·.2) = some 201 := by kernel_rfl
theorem Tryz.tys2 : Tryz.prog.types.size = 306 := by kernel_rfl
theorem Tryz.oneRow2 : ((List.range 306).filter fun t => Tryz.prog.rowNamed t [101, 114, 114, 111, 114]) = [25] := by kernel_rfl

theorem snt_of {W : World} (hm : laidMet Tryz.prog (sentNames.map sd) W)
    (hety : W.cell? ⟨21, 0, none⟩ = some (.iface 201 (.agg #[.pointer (some ⟨28, 25, none⟩)]))) : ∃ s, Snt W s := by
  obtain ⟨ps, hv, hnd, hrows⟩ := hm
  obtain ⟨sl, hlen, hn, hmem, hall⟩ := sents_of hrows sentNames sent_globals ps hv (fun _ hq => hq) hnd
  have hl : sl.length = 21 := hlen
  have hvar : ∀ k, 1 ≤ k → k ≤ 21 → W.cell? ⟨k - 1, 0, none⟩ = some (.iface 276 (.pointer (some (sl.getD (k - 1) ⟨0, 0, none⟩)))) := by
    intro k h1 h2
    have hx : sentNames[k - 1]? = some (sentNames[k - 1]'(by show k - 1 < 21; omega)) := List.getElem?_eq_getElem _
    obtain ⟨a, ha, hva⟩ := hall (k - 1) _ hx
    have hg : Tryz.prog.globalNamed (sentNames[k - 1]'(by show k - 1 < 21; omega)).1 = some (k - 1) := by
      have := congrArg (fun l => l[k - 1]?) sent_places
      simp only [List.getElem?_map, hx, Option.map_some] at this
      rw [List.getElem?_range (by omega)] at this
      first | simpa using this | (simp at this; rw [this]; congr 1; omega)
    have := World.var?_cell hg hva 0
    rw [this, List.getD_eq_getElem?_getD, ha]
    rfl
  refine ⟨fun k => sl.getD (k - 1) ⟨0, 0, none⟩, hvar, ?_, ?_, ?_, hety⟩
  · have := lt_of_cell hety; have h21 := lt_of_cell (hvar 21 (by omega) (by omega)); simp at this h21; omega
  · intro k h1 h2
    have hk : k - 1 < sl.length := by omega
    have hmk := hmem (sl[k - 1]) (List.getElem_mem hk)
    obtain ⟨c, t, hb⟩ := (hrows _ _ hmk).1
    exact ⟨c, t, by rw [List.getD_eq_getElem?_getD, List.getElem?_eq_getElem hk]; exact hb⟩
  · intro j k j1 j2 k1 k2 he
    have hj : j - 1 < sl.length := by omega
    have hk : k - 1 < sl.length := by omega
    simp only [List.getD_eq_getElem?_getD, List.getElem?_eq_getElem hj, List.getElem?_eq_getElem hk, Option.getD_some] at he
    have := (List.getElem_inj (h₀ := by simpa using hj) (h₁ := by simpa using hk) hn).1 (by simp [he])
    omega

theorem Snt.er {W : World} {s : Nat → Addr} (h : Snt W s) : Er W s := ⟨h.var, by have := h.low; omega⟩

/-- The condition, met: tables, errors' own variable, the sentinels. -/
theorem art_of_laid {W : World} {L : List (String × DataW Unit)} (hL : ∃ x y, L.filter (fun x => x.2.handleName?.isNone) = x :: y :: ("internal/strconv.uint64pow10", Lib.tabData .u64 Lib.pow10Tab) :: sentNames.map sd)
    (hH : L.filter (fun x => x.2.handleName?.isSome) = [("errors.errorType", .iface "internal/reflectlite.rtype" (.agg [.ptr (.lit (.string [101, 114, 114, 111, 114]))]))])
    (h : laidMetH Tryz.prog L W) : ∃ s, Snt W s ∧ TP W := by
  unfold laidMetH at h
  rw [hH] at h
  obtain ⟨hm, hh⟩ := h
  obtain ⟨x, y, hL⟩ := hL
  rw [hL] at hm
  have h2 := laidMet.tail (laidMet.tail hm)
  have t2 := Lib.tabIs_of_head (g := 23) (t := 260) (e := 128) (n := 20) (by kernel_rfl) (by kernel_rfl) (by kernel_rfl) (by kernel_rfl) (by kernel_rfl) (by kernel_rfl) h2
  obtain ⟨name, u, ty, e1, e2, e3, e4, e5⟩ := hh _ (List.mem_singleton.2 rfl)
  have en : name = [101, 114, 114, 111, 114] := (Option.some.inj e1).symm
  subst en
  obtain rfl := Option.some.inj (Tryz.rtn2.symm.trans e2)
  have hmt : ty ∈ (List.range 306).filter fun t => Tryz.prog.rowNamed t [101, 114, 114, 111, 114] := List.mem_filter.2 ⟨List.mem_range.2 (by rw [← Tryz.tys2]; exact e3), e4⟩
  rw [Tryz.oneRow2] at hmt
  obtain rfl := List.mem_singleton.1 hmt
  have hth : typeHandle Tryz.prog 25 = .pointer (some ⟨28, 25, none⟩) := by kernel_rfl
  rw [hth] at e5
  have hety : W.cell? ⟨21, 0, none⟩ = some (.iface 201 (.agg #[.pointer (some ⟨28, 25, none⟩)])) := by simpa using World.var?_cell Tryz.etn2 e5 0
  obtain ⟨s, hs⟩ := snt_of (laidMet.tail h2) hety
  exact ⟨s, hs, t2⟩
end Go.Proofs.YtacfglopionkfaaGreatDoor
