/- awake: every law's automaton. -/
import Derived.Test.YtcceiblmdjbhjaaGreatDoorNfWe
import Derived.Test.YtcceiblmdjbhjaaGreatDoorKRv
import Derived.Lib.SlBytesConst
namespace Go.Proofs.YtcceiblmdjbhjaaGreatDoor
open Go.RowKit

def aw9L : List Int := [97, 42, 98]
def aw9T : Nd := joinN 4 [repN 0 (-1) (setN (mem [97])), setN (mem [98])]
theorem aw9_parse (cf : ByteArray → (Nat → Bool) × Bool) : parseN cf aw9L false 30 = some (.ok aw9T 3 0) := by kernel_rfl
theorem aw9_ok : aw9T.Ok := ⟨⟨fun h => (by cases h), fun h => (by cases h)⟩, ⟨⟨fun h => (by cases h), fun _ => ⟨by decide, by decide, by decide, by decide, rfl⟩⟩, ⟨⟨fun h => (by cases h), fun h => (by cases h)⟩, trivial, trivial⟩, ⟨fun h => (by cases h), fun h => (by cases h)⟩, trivial, trivial⟩⟩
theorem aw9_yes : accF aw9T.G [97, 97, 98] = true := by kernel_rfl
theorem aw9_no : accF aw9T.G [97, 97] = false := by kernel_rfl
theorem aw9_len : aw9T.G.1.length ≤ 1000000 ∧ aw9T.G.2 < aw9T.G.1.length := by
  have e : (decide (aw9T.G.1.length ≤ 1000000) && decide (aw9T.G.2 < aw9T.G.1.length)) = true := by kernel_rfl
  simpa using e
theorem sl3 {W : World} {b : Nat} {x y z : Int} {q : Nat × Nat} (h : W.heap[b]? = some (.cells #[.int .u8 x, .int .u8 y, .int .u8 z] 5 q)) (hb : Byt [x, y, z]) : Sl W (.slice (some ⟨b, 0, none⟩) 3 3) [x, y, z] :=
  ⟨hb, by simp, Or.inr ⟨b, 0, 3, rfl, by simp, by decide, fun i hi => by
    have h3 : i < 3 := hi
    rw [Lib.cell_of_heap h, Nat.zero_add]
    match i, h3 with
    | 0, _ => rfl
    | 1, _ => rfl
    | 2, _ => rfl⟩⟩
theorem sl2 {W : World} {b : Nat} {x y : Int} {q : Nat × Nat} (h : W.heap[b]? = some (.cells #[.int .u8 x, .int .u8 y] 5 q)) (hb : Byt [x, y]) : Sl W (.slice (some ⟨b, 0, none⟩) 2 2) [x, y] :=
  ⟨hb, by simp, Or.inr ⟨b, 0, 2, rfl, by simp, by decide, fun i hi => by
    have h3 : i < 2 := hi
    rw [Lib.cell_of_heap h, Nat.zero_add]
    match i, h3 with
    | 0, _ => rfl
    | 1, _ => rfl⟩⟩
set_option maxRecDepth 100000 in
set_option maxHeartbeats 8000000 in
theorem awake9_any (e : Nat → Addr) (w : World) (he : Es w w.heap.size e) (ht : Ety w) :
    Calls Tryz.prog 12 #[] w fun x w' => x = .returned (.bool true) ∧ Below w.heap.size w w' := by
  have hpar := aw9_parse (fun _ => (fun _ => false, false))
  obtain ⟨W, hW⟩ : ∃ W, W = w.alloc (.cells #[.int .u8 97, .int .u8 42, .int .u8 98] 5 (3, 4)) := ⟨_, rfl⟩
  have hb : Below w.heap.size w W := by rw [hW]; exact (Below.refl _ _).alloc (Nat.le_refl _) _
  have hx : W.heap[w.heap.size]? = some (.cells #[.int .u8 97, .int .u8 42, .int .u8 98] 5 (3, 4)) := by rw [hW]; exact alloc_last w _
  have hz : W.heap.size = w.heap.size + 1 := by rw [hW]; simp
  have hs : Sl W (.slice (some ⟨w.heap.size, 0, none⟩) 3 3) aw9L := sl3 hx (byt_ofR (by decide))
  have he1 : Es W W.heap.size e := ⟨(he.below hb).var, by have := he.low; omega, Nat.le_refl _⟩
  have HPA := Lib.hid (parse_any (fun _ => (fun _ => false, false)) e _ aw9L (bkC_none _ (by intro k hk; unfold aw9L at hk; match k, hk with | 0, hk => cases hk | 1, hk => cases hk | 2, hk => cases hk | k + 3, hk => cases hk)) false 30 (.ok aw9T 3 0) W he1 (ht.below hb) hs (fun x o n cap hv => by simp only [Value.slice.injEq, Option.some.injEq, Addr.mk.injEq] at hv; omega) hpar)
  have HBU : Hid (∀ X p kv S, ReAt X p aw9T kv 0 false → aw9T.In X S kv → Calls Tryz.prog 13 #[.pointer (some ⟨p, 0, none⟩)] X (BuQ aw9T X)) := Lib.hid (fun X p kv S hr hi => build_at S X p aw9T kv 0 false hr (by decide) (by decide) aw9_ok (by decide) hi (by decide))
  have HAC : Hid (∀ B gb X v l, GrAt B gb aw9T.G.1 aw9T.G.2 X → Sl X v l → l.length ≤ 1000 → Calls Tryz.prog 21 #[.pointer (some ⟨gb, 0, none⟩), v] X fun r w' => r = .returned (.bool (accF aw9T.G l)) ∧ Below X.heap.size X w') := Lib.hid (fun B gb X v l hg hs hl => nacc_any B gb aw9T.G.2 aw9T.G.1 v l X (Nd.clG _ aw9_ok) aw9_len.1 hg aw9_len.2 hs (by omega))
  unfold BuQ at HBU
  have HB := Lib.hid hb
  have kc := fun (w : World) (C : Array Value) (n c : Nat) => Lib.run_convert_bytes_const (P := Tryz.prog) w 22 5 C n c Tryz.underlying22 Tryz.underlying5
  clear he ht hb hx hs he1 hz hpar
  subst hW
  go_enter Tryz.func12, Tryz.ntmps12
  go_wp2_with fail
  refine HPA.out.mono ?_
  rintro x w1 ⟨p, a, m, c, rfl, hp, hrow, hin, hb1⟩
  have hb2 : Below w.heap.size w w1 := below_thn HB.out (Nat.le_refl _) hb1
  have HT1 := Lib.hid (HBU.out w1 p _ _ hrow hin)
  have HB2 := Lib.hid hb2
  clear hp hrow hin hb1 hb2
  go_wp2_with fail
  refine HT1.out.mono ?_
  rintro x w2 ⟨B, gb, rfl, hB2, hg2, hb3⟩
  have HB3 := Lib.hid (below_thn HB2.out (Nat.le_refl _) hb3)
  have hc2 : Below w2.heap.size w2 (w2.alloc (.cells #[.int .u8 97, .int .u8 97, .int .u8 98] 5 (3, 4))) := (Below.refl _ _).alloc (Nat.le_refl _) _
  have HA1 := Lib.hid (HAC.out B gb _ _ _ (hg2.below hc2) (sl3 (alloc_last w2 (.cells #[.int .u8 97, .int .u8 97, .int .u8 98] 5 (3, 4))) (byt_ofR (by decide))) (by decide))
  rw [aw9_yes] at HA1
  have HB4 := Lib.hid (HB3.out.trans (hc2.mono HB3.out.size))
  have HG4 := Lib.hid (hg2.below hc2)
  clear hb3 hB2 hg2 hc2
  go_wp2_with fail
  refine HA1.out.mono ?_
  rintro x w3 ⟨rfl, hb5⟩
  have HB5 := Lib.hid (HB4.out.trans (hb5.mono HB4.out.size))
  have hg5 := HG4.out.below hb5
  have hc5 : Below w3.heap.size w3 (w3.alloc (.cells #[.int .u8 97, .int .u8 97] 5 (2, 3))) := (Below.refl _ _).alloc (Nat.le_refl _) _
  have HA2 := Lib.hid (HAC.out B gb _ _ _ (hg5.below hc5) (sl2 (alloc_last w3 (.cells #[.int .u8 97, .int .u8 97] 5 (2, 3))) (byt_ofR (by decide))) (by decide))
  rw [aw9_no] at HA2
  have HB6 := Lib.hid (HB5.out.trans (hc5.mono HB5.out.size))
  clear hb5 hg5 hc5
  go_wp2_with fail
  refine HA2.out.mono ?_
  rintro x w4 ⟨rfl, hb7⟩
  have HB7 := Lib.hid (HB6.out.trans (hb7.mono HB6.out.size))
  clear hb7
  go_wp2
  go_ret
  exact ⟨rfl, HB7.out⟩
end Go.Proofs.YtcceiblmdjbhjaaGreatDoor
