/- The contract of operatorAt. -/
import Derived.Test.YtacfglopionkfaaGreatDoorArTok
import Derived.LoopTactic
import Derived.Laws.Rows
import Derived.Deep.WholeRow
import Derived.Great.BuildSlice
namespace Go.Proofs.YtacfglopionkfaaGreatDoor
open Go.RowKit

/-- The operators as the array holds them. -/
def opVals : Array Value := (opList.map Value.string).toArray
theorem opVals_one : opVals.all (·.oneCell') = true := by kernel_rfl
/-- An element of one cell out of an array by value. -/
theorem run_index_one {P : Program} {t e : TypeId} {n : Nat} {cs : Array Value} {k : Nat} {v : Value} {w : World} (hu : P.underlying t = some (.array n e)) (ha : (isAgg e).run P w = .ok false w) (hs : (sizeOf e).run P w = .ok 1 w)
    (hk : k < n) (hv : cs[k]? = some v) : (Instr.index t (.agg cs) (.int .i64 (k : Int))).run P w = .ok v w := by
  simp [Instr.index, run_underlying hu, asIntOf, go_sem, part, ha, hs, hv]
  intro h
  omega
theorem opVals_at (k : Nat) (h : k < 35) (w : World) : (Instr.index 196 (.agg opVals) (.int .i64 (k : Int))).run Tryz.prog w = .ok (.string (opList.getD k sEmpty)) w := by
  refine run_index_one Tryz.underlying196 (by kernel_rfl) (by kernel_rfl) h ?_
  have h' : k < opList.length := h
  simp [opVals, List.getD, List.getElem?_eq_getElem h']

theorem opFrom_hit (l : List Int) (k : Nat) (h : k < opList.length) (hb : begins l (opList.getD k sEmpty) = true) : opFrom l (opList.drop k) = opList.getD k sEmpty := by
  rw [List.drop_eq_getElem_cons h]
  have e : opList.getD k sEmpty = opList[k] := by rw [List.getD, List.getElem?_eq_getElem h]; rfl
  rw [e] at hb ⊢
  unfold opFrom
  rw [if_pos hb]
theorem opFrom_miss (l : List Int) (k : Nat) (h : k < opList.length) (hb : ¬ begins l (opList.getD k sEmpty) = true) : opFrom l (opList.drop k) = opFrom l (opList.drop (k + 1)) := by
  have e : opList.getD k sEmpty = opList[k] := by rw [List.getD, List.getElem?_eq_getElem h]; rfl
  rw [e] at hb
  rw [List.drop_eq_getElem_cons h]
  conv => lhs; unfold opFrom
  rw [if_neg hb]
theorem opList_small : ∀ s ∈ opList, 1 ≤ s.size ∧ s.size ≤ 3 := by decide
theorem opList_sz (k : Nat) : (opList.getD k sEmpty).size ≤ 3 := by
  by_cases h : k < opList.length
  · rw [List.getD, List.getElem?_eq_getElem h]; exact (opList_small _ (List.getElem_mem h)).2
  · rw [List.getD, List.getElem?_eq_none (by omega)]; decide
/-- The first bytes of a slice. -/
theorem Sl.take {w : World} {b o cap : Nat} {l : List Int} (hy : Byt l) (_hl : l.length ≤ 9223372036854775807) (hcl : l.length ≤ cap) (hcm : cap ≤ 9223372036854775807) (hr : Row w b o l) (k : Nat) (hk : k ≤ l.length) :
    Sl w (.slice (some ⟨b, o, none⟩) k cap) (l.take k) := by
  have hlen : (l.take k).length = k := by rw [List.length_take]; omega
  refine ⟨fun i => ?_, by omega, Or.inr ⟨b, o, cap, by rw [hlen], by omega, by omega, fun i hi => ?_⟩⟩
  · by_cases h : i < k
    · have := hy i
      simpa [List.getD, List.getElem?_take, h] using this
    · simp [List.getD, List.getElem?_take, h]
  · rw [hr i (by omega)]
    have : i < k := by omega
    simp [List.getD, this]

set_option maxRecDepth 100000 in
set_option maxHeartbeats 4000000 in
theorem operatorAt_cells (b o cap : Nat) (l : List Int) (w : World) (hl : l.length ≤ 9223372036854775807) (hcl : l.length ≤ cap) (hcm : cap ≤ 9223372036854775807) (hy : Byt l) (hc : Row w b o l) :
    Calls Tryz.prog 105 #[.slice (some ⟨b, o, none⟩) l.length cap] w fun e w' => e = .returned (.string (opB l)) ∧ Below w.heap.size w w' := by
  have HC := Lib.hid hc
  have HY := Lib.hid hy
  clear hc hy
  obtain ⟨n, hn⟩ : ∃ n, n = l.length := ⟨_, rfl⟩
  rw [← hn] at hl hcl ⊢
  have HN := Lib.hid hn
  clear hn
  go_enter Tryz.func105, Tryz.ntmps105
  go_wp2_with (first | (refine wpList_buildTo rfl 196 _ rfl (some 6) rfl opVals (by kernel_rfl) ?_) | (refine wpList_store_rowTo rfl 196 _ _ rfl rfl w.heap.size opVals rfl rfl 196 _ (heap_alloc_last w _) (by kernel_rfl) (by simp; rfl) opVals_one ?_; rw [World.setRow_alloc_new]) | (refine wpList_load_row rfl 196 _ rfl w.heap.size rfl 196 opVals (0, 0) _ (heap_alloc_last w _) Tryz.underlying196 rfl (by kernel_rfl) ?_))
  obtain ⟨wo, hwo⟩ : ∃ wo : World, wo = w.alloc (.cells opVals 196) := ⟨_, rfl⟩
  rw [← hwo]
  have HB : Hid (Below w.heap.size w wo) := Lib.hid (by rw [hwo]; exact (Below.refl _ _).alloc (Nat.le_refl _) _)
  have HR : Hid (Row wo b o l) := Lib.hid (HC.out.below HB.out)
  clear hwo
  go_loop [5, 8] (fun _ i => ∃ k : Nat, k ≤ 35 ∧ opB l = opFrom l (opList.drop k) ∧ i = .int .i64 k) (fun _ i => 35 - (intOf i).toNat)
  case atStart => exact ⟨0, by omega, rfl, rfl⟩
  case round =>
    obtain ⟨k, hk, hd, rfl⟩ := hrel
    have HD := Lib.hid hd
    clear hd
    by_cases hlt : k < 35
    · have hat := opVals_at k hlt wo
      have hsz := opList_sz k
      by_cases hb : begins l (opList.getD k sEmpty) = true
      · have HH : Hid (opB l = opList.getD k sEmpty) := Lib.hid (HD.out.trans (opFrom_hit l k hlt hb))
        generalize opList.getD k sEmpty = s at *
        unfold begins at hb
        simp only [Bool.and_eq_true, decide_eq_true_eq] at hb
        obtain ⟨hb1, hb2⟩ := hb
        rw [← HN.out] at hb1
        have HT := Lib.hid (conv_string (Sl.take HY.out (by rw [← HN.out]; exact hl) (by rw [← HN.out]; exact hcl) hcm HR.out s.size (by rw [← HN.out]; exact hb1)))
        rw [hb2] at HT
        have hconv := HT.out
        clear hb2
        go_wp2
        go_ret
        exact ⟨ret_str HH.out.symm, HB.out⟩
      · have HH : Hid (opB l = opFrom l (opList.drop (k + 1))) := Lib.hid (HD.out.trans (opFrom_miss l k hlt hb))
        generalize opList.getD k sEmpty = s at *
        by_cases hb1 : s.size ≤ n
        · have hb2 : ofBys (l.take s.size) ≠ s := fun e => hb (by unfold begins; rw [← HN.out]; simp [hb1, e])
          have HT := Lib.hid (conv_string (Sl.take HY.out (by rw [← HN.out]; exact hl) (by rw [← HN.out]; exact hcl) hcm HR.out s.size (by rw [← HN.out]; exact hb1)))
          generalize ofBys (l.take s.size) = u at *
          have hq : (u.toList == s.toList) = false := by rw [toList_beq]; simpa using hb2
          have hconv := HT.out
          clear hb hb2
          go_wp2
          go_round
          case rel => exact ⟨k + 1, by omega, HH.out, by go_num⟩
          case measure => simp [intOf]; omega
        · clear hb
          go_wp2
          go_round
          case rel => exact ⟨k + 1, by omega, HH.out, by go_num⟩
          case measure => simp [intOf]; omega
    · obtain rfl : k = 35 := by omega
      go_wp2
      go_ret
      exact ⟨ret_str (HD.out.symm), HB.out⟩
theorem operatorAt_any (v : Value) (l : List Int) (w : World) (hs : Sl w v l) (hn : 0 < l.length) :
    Calls Tryz.prog 105 #[v] w fun e w' => e = .returned (.string (opB l)) ∧ Below w.heap.size w w' := by
  obtain ⟨hy, hl, ⟨rfl, a, cap, rfl⟩ | ⟨b, o, cap, rfl, hcl, hcm, hr⟩⟩ := hs
  · simp at hn
  · exact operatorAt_cells b o cap l w hl hcl hcm hy hr
end Go.Proofs.YtacfglopionkfaaGreatDoor
