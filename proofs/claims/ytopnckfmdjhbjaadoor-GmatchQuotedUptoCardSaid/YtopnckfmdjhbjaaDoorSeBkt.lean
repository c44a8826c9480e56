/- Bracket from the first place, where its reader tells a set. -/
import Derived.Test.YtopnckfmdjhbjaaDoorSeBra
namespace Go.Proofs.YtopnckfmdjhbjaaDoor
open Go.RowKit

theorem hasB_any (lg : Int) (w : World) (h : lg = 2 ∨ lg = 3 ∨ lg = 4) :
    Calls Tryd.prog 51 #[.int .i64 lg] w fun e w' => e = .returned (.bool true) ∧ w = w' := by
  rcases h with rfl | rfl | rfl
  all_goals
    go_enter Tryd.func51, Tryd.ntmps51
    go_wp2
    go_ret
    exact ⟨rfl, rfl⟩

set_option maxRecDepth 100000 in
set_option maxHeartbeats 16000000 in
theorem bkt_ok (x o n cap : Nat) (l : List Int) (lg : Int) (q : Nat → Bool) (k : Nat) (w : World) (hs : Sl w (.slice (some ⟨x, o, none⟩) n cap) l) (hn : n = l.length) (hlg : lg = 2 ∨ lg = 3 ∨ lg = 4)
    (hb : ∀ w' rb cb, Rdr w' rb cb (ofBys l) 0 0 lg → Calls Tryd.prog 54 #[.pointer (some ⟨rb, 0, none⟩)] w' fun e w'' => e = .returned (.tuple #[SV q, .nilIface]) ∧ Mv cb (ofBys l) k w' w'') :
    Calls Tryd.prog 29 #[.slice (some ⟨x, o, none⟩) n cap, .int .i64 0, .int .i64 lg] w fun e w' => e = .returned (.tuple #[SV q, .int .i64 k, .nilIface]) ∧ Below w.heap.size w w' := by
  have hlen := hs.2.1
  have HS := Lib.hid hs
  have HBK := Lib.hid hb
  have HN := Lib.hid hn
  have HH : ∀ w, Hid (Calls Tryd.prog 51 #[.int .i64 lg] w fun e w' => e = .returned (.bool true) ∧ w = w') := fun w => Lib.hid (hasB_any lg w hlg)
  have hnI : (n : Int) ≤ 9223372036854775807 := by omega
  have hn0 : (0 : Int) ≤ n := by omega
  clear hs hb hlg hn
  go_enter Tryd.func29, Tryd.ntmps29
  go_wp2_with fail
  refine (HH _).out.mono ?_
  rintro e w' ⟨rfl, rfl⟩
  go_wp2_with fail
  have HSA : Hid (Sl ((w.alloc (.cells #[.int .u64 0, .int .u64 0, .int .u64 0, .int .u64 0] 53)).alloc (.cells #[.pointer none, .int .i64 0, .int .i64 lg] 89)) (.slice (some ⟨x, o, none⟩) n cap) l) :=
    Lib.hid (HS.out.below (((Below.refl _ _).alloc (Nat.le_refl _) _).alloc (by simp) _))
  refine (cnew_any _ l _ HSA.out).mono ?_
  rintro e w' ⟨rfl, rfl⟩
  go_wp2_with fail
  obtain ⟨V, hV⟩ : ∃ V, V = ((w.alloc (.cells #[.int .u64 0, .int .u64 0, .int .u64 0, .int .u64 0] 53)).alloc (.cells #[.pointer (some ⟨w.heap.size + 1 + 1, 0, none⟩), .int .i64 0, .int .i64 lg] 89)).alloc (.cells #[.string (ofBys l), .int .i64 0] 124) := ⟨_, rfl⟩
  rw [← hV]
  have HR : Hid (Rdr V (w.heap.size + 1) (w.heap.size + 1 + 1) (ofBys l) 0 0 lg) := by
    rw [hV]
    refine Lib.hid ⟨?_, ⟨?_, by simp, by rw [ofBys_size]; exact hlen⟩, by omega, by rw [ofBys_size]; omega⟩
    · rw [Below.heap_alloc _ _ _ (by simp)]
      have := alloc_last (w.alloc (.cells #[.int .u64 0, .int .u64 0, .int .u64 0, .int .u64 0] 53)) (.cells #[.pointer (some ⟨w.heap.size + 1 + 1, 0, none⟩), .int .i64 0, .int .i64 lg] 89)
      simpa using this
    · have := alloc_last ((w.alloc (.cells #[.int .u64 0, .int .u64 0, .int .u64 0, .int .u64 0] 53)).alloc (.cells #[.pointer (some ⟨w.heap.size + 1 + 1, 0, none⟩), .int .i64 0, .int .i64 lg] 89)) (.cells #[.string (ofBys l), .int .i64 0] 124)
      simpa using this
  have HBV : Hid (Below (w.heap.size + 1) (w.alloc (.cells #[.int .u64 0, .int .u64 0, .int .u64 0, .int .u64 0] 53)) V) := by
    rw [hV]
    exact Lib.hid (((Below.refl _ _).alloc (by simp) _).alloc (by simp) _)
  have hvz : V.heap.size = w.heap.size + 1 + 1 + 1 := by rw [hV]; simp
  clear hV
  refine (HBK.out _ _ _ HR.out).mono ?_
  rintro e w1 ⟨rfl, hm1⟩
  have HM1 := Lib.hid hm1
  have HR1 := Lib.hid (HR.out.mv hm1)
  have HB1 : Hid (Below (w.heap.size + 1) (w.alloc (.cells #[.int .u64 0, .int .u64 0, .int .u64 0, .int .u64 0] 53)) w1) := Lib.hid (HBV.out.trans (hm1.1.mono (by omega)))
  have hw1z : w.heap.size + 1 + 1 < w1.heap.size := HR1.out.lt.2
  obtain ⟨a10, a11, a12, a1z⟩ := HR1.out.facts
  clear hm1
  unfold SV
  go_wp2_with fail
  obtain ⟨w2, hV⟩ : ∃ V, V = w1.alloc (.cells #[.int .u64 (sw q 0 : Nat), .int .u64 (sw q 1 : Nat), .int .u64 (sw q 2 : Nat), .int .u64 (sw q 3 : Nat)] 53) := ⟨_, rfl⟩
  rw [← hV]
  have HA2 : Hid (Below w1.heap.size w1 w2.drew) := Lib.hid (by rw [hV]; exact ((Below.refl _ _).alloc (Nat.le_refl _) _).drew)
  have HG2 : Hid (w2.drew.heap[w1.heap.size]? = some (.cells #[.int .u64 (sw q 0 : Nat), .int .u64 (sw q 1 : Nat), .int .u64 (sw q 2 : Nat), .int .u64 (sw q 3 : Nat)] 53)) := Lib.hid (by rw [hV]; exact alloc_last w1 _)
  have hz2 : w1.heap.size < w2.drew.heap.size := by rw [hV]; simp
  have HG2' : Hid (w2.heap[w1.heap.size]? = some (.cells #[.int .u64 (sw q 0 : Nat), .int .u64 (sw q 1 : Nat), .int .u64 (sw q 2 : Nat), .int .u64 (sw q 3 : Nat)] 53)) := Lib.hid HG2.out
  obtain ⟨⟨z0, z1, z2, z3⟩, _, _⟩ := cells4 HG2'.out
  clear hV
  have HR2 := Lib.hid (HR1.out.mv (Mv.below HR1.out.2.1 HA2.out))
  have HB2 := Lib.hid (HB1.out.trans (HA2.out.mono (by omega)))
  have HPL : Hid (∀ w', Rdr w' (w.heap.size + 1) (w.heap.size + 1 + 1) (ofBys l) k 0 lg → Calls Tryd.prog 55 #[.pointer (some ⟨w.heap.size + 1, 0, none⟩)] w' fun e w'' => e = .returned (.int .i64 k) ∧ Mv (w.heap.size + 1 + 1) (ofBys l) k w' w'') := Lib.hid fun w' h' => (place_any _ _ _ k 0 lg w' h').mono fun _ _ h => ⟨by rw [h.1, Nat.zero_add], h.2⟩
  go_region_with (first
    | (go_at_call 55; refine (HPL.out _ HR2.out).mono ?_; rintro e w3 ⟨rfl, hm3⟩; have HB3 := Lib.hid (HB2.out.trans (hm3.1.mono (Nat.le_succ _))); have hg3 := (hm3.2.2 w1.heap.size hz2 (by omega)).trans HG2.out; obtain ⟨⟨y0, y1, y2, y3⟩, _, _⟩ := cells4 hg3; obtain ⟨c0, c1, c2, c3, g0, g1, g2, g3, hz⟩ := res_facts HB3.out (Nat.lt_succ_self _); clear hg3 hm3))
  all_goals
    go_wp2
    exact bodyPost_ret (by simp [results, Tryd.results29, go_sem, c0, c1, c2, c3]; rfl) rfl ⟨rfl, res_below HB3.out _ _ _ _⟩
end Go.Proofs.YtopnckfmdjhbjaaDoor
