/- The contracts of each at an operator, at any tree; Size. -/
import Derived.Test.YtlmoeldillpamaaDoorArSize
namespace Go.Proofs.YtlmoeldillpamaaDoor
open Go.RowKit

def KidsN (W0 : World) (b blk : Nat) (ks : List Nat) : Prop :=
  ∀ i, i < ks.length → ∃ o v n p q kv, (W0.cell? ⟨blk, i * 6, none⟩ = some (.string o) ∧ W0.cell? ⟨blk, i * 6 + 1, none⟩ = some (.int .i64 v) ∧ W0.cell? ⟨blk, i * 6 + 2, none⟩ = some (.string n) ∧ W0.cell? ⟨blk, i * 6 + 3, none⟩ = some (.int .i64 p) ∧ W0.cell? ⟨blk, i * 6 + 4, none⟩ = some (.int .i64 q) ∧ W0.cell? ⟨blk, i * 6 + 5, none⟩ = some kv) ∧ (∃ a m, kv = .slice a m m) ∧
    Counts W0 b (.agg #[.string o, .int .i64 v, .string n, .int .i64 p, .int .i64 q, kv]) (ks.getD i 0)
def sumK (ks : List Nat) (k : Nat) : Nat := (ks.take k).sum
theorem sumK_succ (ks : List Nat) (k : Nat) (h : k < ks.length) : sumK ks (k + 1) = sumK ks k + ks.getD k 0 := by
  unfold sumK
  rw [List.take_succ_eq_append_getElem h, List.sum_append, List.getD, List.getElem?_eq_getElem h]
  simp
theorem sumK_all (ks : List Nat) : sumK ks ks.length = ks.sum := by unfold sumK; rw [List.take_length]
theorem sumK_le (ks : List Nat) (k : Nat) : sumK ks k ≤ ks.sum := by
  unfold sumK
  conv => rhs; rw [← List.take_append_drop k ks]
  rw [List.sum_append]
  omega

set_option maxRecDepth 100000 in
set_option maxHeartbeats 4000000 in
theorem each_op (W0 : World) (b blk : Nat) (hB : W0.heap.size ≤ b) (op nm : ByteArray) (nv p q : Int) (ks : List Nat) (hks : KidsN W0 b blk ks) (hm : ks.length ≤ 3) (hs : op.size ≤ 9223372036854775807) :
    Counts W0 b (.agg #[.string op, .int .i64 nv, .string nm, .int .i64 p, .int .i64 q, .slice (some ⟨blk, 0, none⟩) ks.length ks.length]) (oneN op + ks.sum) := by
  intro c w hb hc h0 hsum
  have hsz := hb.size
  have HB := Lib.hid hb
  have HC := Lib.hid hc
  have HK := Lib.hid hks
  have HC1 : Hid (∀ o, CtAt (w.alloc o) b c) := Lib.hid (fun o => ct_alloc hc o)
  have hbw := lt_of_bd hc
  obtain ⟨m, hmm⟩ : ∃ m, ks.length = m := ⟨_, rfl⟩
  rw [hmm] at hm
  have HM := Lib.hid hmm
  have HS := Lib.hid hs
  have hcall := see_any b c op nm nv p q (some ⟨blk, 0, none⟩) m (w.alloc (.cells #[.string op, .int .i64 nv, .string nm, .int .i64 p, .int .i64 q, .slice (some ⟨blk, 0, none⟩) m m] 36)) (HC1.out _) hs h0 (by unfold oneN at hsum; split at hsum <;> omega)
  generalize hone : oneN op = one at hcall hsum ⊢
  have HSum := Lib.hid hsum
  have HCall := Lib.hid hcall
  rw [hmm]
  clear hb hc hks hmm hsum hcall hs hone
  go_enter Tryd.func25, Tryd.ntmps25
  go_wp2_with fail
  refine HCall.out.mono ?_
  rintro e w1 ⟨rfl, hc1, ho1, hb1⟩
  have HP1 : Hid (w1.heap[w.heap.size]? = some (.cells #[.string op, .int .i64 nv, .string nm, .int .i64 p, .int .i64 q, .slice (some ⟨blk, 0, none⟩) m m] 36)) := Lib.hid (ho1 _ _ _ _ (heap_alloc_last w _) (by decide) (by omega))
  have HC2 := Lib.hid hc1
  have HO2 : Hid (Oth b w w1) := Lib.hid ((Oth.below ((Below.refl _ _).alloc (Nat.le_refl _) _)).trans ho1)
  have HBb : Hid (Below W0.heap.size W0 w1) := Lib.hid (hb1 W0 (HB.out.alloc hsz _) hB)
  clear hc1 ho1 hb1 HCall
  obtain ⟨⟨c0, c1, c2, c3, c4, c5⟩, _⟩ := six_facts HP1.out
  go_wp2_with fail
  clear c0 c1 c2 c3 c4 c5
  have H0 := Lib.hid h0
  go_loopg [5, 12] m (fun g _ s12 wr => ∃ k : Nat, g = m - k ∧ k ≤ m ∧ s12 = .int .i64 k ∧ Aside (CtAt wr b (c + one + sumK ks k)) ∧ Aside (Below W0.heap.size W0 wr) ∧ Aside (Oth b w wr))
  case atStart => exact ⟨0, by omega, by omega, rfl, (by show CtAt w1 b _; have := HC2.out; simpa [sumK] using this), HBb.out, HO2.out⟩
  case round =>
    obtain ⟨k, hg, hk, rfl, A1, A2, A3⟩ := hrel
    have HG := Lib.hid hg
    clear hg
    by_cases hlt : k < m
    · have hki : (k : Int) < (m : Int) := by omega
      obtain ⟨o1, v1, n1, p1, q1, kv1, ⟨x0, x1, x2, x3, x4, x5⟩, ⟨ka, km, rfl⟩, hcs⟩ := HK.out k (by rw [HM.out]; exact hlt)
      have HW := Lib.hid hcs
      have HCt := Lib.hid A1.out
      have HBe := Lib.hid A2.out
      have HOt := Lib.hid A3.out
      have hbr := HBe.out.size
      clear A1 A2 A3 hcs
      have hc : ∀ j u, W0.cell? ⟨blk, j, none⟩ = some u → wr.cell? ⟨blk, j, none⟩ = some u := fun j u h => cell_kept HBe.out h
      have y0 := hc _ _ x0
      have y1 := hc _ _ x1
      have y2 := hc _ _ x2
      have y3 := hc _ _ x3
      have y4 := hc _ _ x4
      have y5 := hc _ _ x5
      clear hc x0 x1 x2 x3 x4 x5
      go_wp2_with fail
      have hcall := HW.out (c + one + sumK ks k) (wr.alloc (.cells #[.string o1, .int .i64 v1, .string n1, .int .i64 p1, .int .i64 q1, .slice ka km km] 36)) (HBe.out.alloc hbr _) (ct_alloc HCt.out _) (by have := H0.out; omega) (by
        have h1 := HSum.out
        have h2 := sumK_le ks (k + 1)
        rw [sumK_succ ks k (by rw [HM.out]; exact hlt)] at h2
        omega)
      refine hcall.mono ?_
      clear hcall
      rintro e w4 ⟨rfl, hc4, ho4, hb4⟩
      have HC4 : Hid (CtAt w4 b (c + one + sumK ks (k + 1))) := Lib.hid (by
        rw [sumK_succ ks k (by rw [HM.out]; exact hlt)]
        have e : c + (one : Int) + ((sumK ks k + ks.getD k 0 : Nat) : Int) = c + one + sumK ks k + ((ks.getD k 0 : Nat) : Int) := by omega
        rw [e]; exact hc4)
      have HO4 : Hid (Oth b w w4) := Lib.hid ((HOt.out.trans (Oth.below ((Below.refl _ _).alloc (Nat.le_refl _) _))).trans ho4)
      have HB4 := Lib.hid hb4
      clear hc4 ho4 hb4 y0 y1 y2 y3 y4 y5
      go_wp2_with fail
      go_roundg (m - (k + 1))
      case measure => have := HG.out; omega
      case rel => exact ⟨k + 1, rfl, by omega, by go_num, HC4.out, HB4.out, HO4.out⟩
    · obtain rfl : k = m := by omega
      have HCt := Lib.hid A1.out
      have HBe := Lib.hid A2.out
      have HOt := Lib.hid A3.out
      clear A1 A2 A3
      go_wp2_with fail
      go_end0
      refine ⟨rfl, ?_, HOt.out, HBe.out⟩
      have h1 := HCt.out
      rw [← HM.out, sumK_all] at h1
      have e : c + ((one + ks.sum : Nat) : Int) = c + one + (ks.sum : Nat) := by omega
      rw [e]; exact h1

end Go.Proofs.YtlmoeldillpamaaDoor
