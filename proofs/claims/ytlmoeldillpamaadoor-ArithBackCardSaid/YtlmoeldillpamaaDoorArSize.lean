/- The contracts of Size. -/
import Derived.Test.YtlmoeldillpamaaDoorArTx
namespace Go.Proofs.YtlmoeldillpamaaDoor
open Go.RowKit

/-- A counter in memory. -/
def CtAt (w : World) (b : Nat) (n : Int) : Prop := w.heap[b]? = some (.cells #[.int .i64 n] 3)
theorem ct_facts {w : World} {b : Nat} {n : Int} (h : CtAt w b n) : w.cell? ⟨b, 0, none⟩ = some (.int .i64 n) ∧ w.frozen? ⟨b, 0, none⟩ = false := by
  unfold CtAt at h
  refine ⟨?_, ?_⟩ <;> simp [World.cell?, World.frozen?, h]
theorem ct_set {w : World} {b : Nat} {n m : Int} (h : CtAt w b n) : CtAt (w.setCell ⟨b, 0, none⟩ (.int .i64 m)) b m := set_block h 0 _
theorem ct_alloc {w : World} {b : Nat} {n : Int} (h : CtAt w b n) (o : Obj) : CtAt (w.alloc o) b n := (((Below.refl _ _).alloc (Nat.le_refl _) o).block b (lt_of_bd h)).trans h

/-- What one part counts. -/
def oneN (op : ByteArray) : Nat := if asgB op = true then 2 else 1

set_option maxRecDepth 100000 in
set_option maxHeartbeats 2000000 in
theorem see_any (b : Nat) (c : Int) (op nm : ByteArray) (v p q : Int) (a : Option Addr) (m : Nat) (w : World) (hc : CtAt w b c) (hs : op.size ≤ 9223372036854775807) (h0 : 0 ≤ c) (hm : c + 2 ≤ 9223372036854775807) :
    Calls Tryd.prog 26 #[.agg #[.string op, .int .i64 v, .string nm, .int .i64 p, .int .i64 q, .slice a m m], .pointer (some ⟨b, 0, none⟩)] w fun e w' => e = .returned (.tuple #[]) ∧ CtAt w' b (c + oneN op) ∧ Oth b w w' ∧ (∀ W0 : World, Below W0.heap.size W0 w → W0.heap.size ≤ b → Below W0.heap.size W0 w') := by
  have hb := lt_of_bd hc
  have HC0 := Lib.hid hc
  have h1 : -9223372036854775808 ≤ c + 1 := by omega
  have h2 : c + 1 ≤ 9223372036854775807 := by omega
  have HC1 : Hid (CtAt (w.alloc (.cells #[.string op, .int .i64 v, .string nm, .int .i64 p, .int .i64 q, .slice a m m] 36)) b c) := Lib.hid (ct_alloc hc _)
  obtain ⟨d1, d2⟩ := ct_facts HC1.out
  clear hc
  cases hq : asgB op
  · have HA : Hid (asgB op = false) := Lib.hid hq
    clear hq
    go_enter Tryd.func26, Tryd.ntmps26
    go_wp2_with fail
    refine (isAssigning_any op _ hs).mono ?_
    rintro e w1 ⟨rfl, hw1⟩
    have HC2 : Hid (CtAt w1 b (c + 1)) := Lib.hid (by rw [← hw1]; exact ct_alloc (ct_set HC0.out) _)
    have HO2 : Hid (Oth b w w1) := Lib.hid (by rw [← hw1]; exact ((Oth.refl b w).set 0 _).trans (Oth.below ((Below.refl _ _).alloc (Nat.le_refl _) _)))
    have HS2 : Hid (∀ W0 : World, Below W0.heap.size W0 w → W0.heap.size ≤ b → Below W0.heap.size W0 w1) := Lib.hid (by rw [← hw1]; exact fun W0 h hB => (h.setCell (p := ⟨b, 0, none⟩) hB _).alloc (by have := h.size; simpa using this) _)
    clear hw1
    rw [HA.out]
    go_wp2_with fail
    go_end0
    exact ⟨rfl, by unfold oneN; rw [HA.out]; exact HC2.out, HO2.out, HS2.out⟩
  · have HA : Hid (asgB op = true) := Lib.hid hq
    clear hq
    go_enter Tryd.func26, Tryd.ntmps26
    go_wp2_with fail
    refine (isAssigning_any op _ hs).mono ?_
    rintro e w1 ⟨rfl, hw1⟩
    have HC2 : Hid (CtAt w1 b (c + 1)) := Lib.hid (by rw [← hw1]; exact ct_alloc (ct_set HC0.out) _)
    have HO2 : Hid (Oth b w w1) := Lib.hid (by rw [← hw1]; exact ((Oth.refl b w).set 0 _).trans (Oth.below ((Below.refl _ _).alloc (Nat.le_refl _) _)))
    have HS2 : Hid (∀ W0 : World, Below W0.heap.size W0 w → W0.heap.size ≤ b → Below W0.heap.size W0 w1) := Lib.hid (by rw [← hw1]; exact fun W0 h hB => (h.setCell (p := ⟨b, 0, none⟩) hB _).alloc (by have := h.size; simpa using this) _)
    clear hw1 d1 d2
    obtain ⟨d1, d2⟩ := ct_facts HC2.out
    have h3 : -9223372036854775808 ≤ c + 1 + 1 := by omega
    have h4 : c + 1 + 1 ≤ 9223372036854775807 := by omega
    have hb1 := lt_of_bd HC2.out
    rw [HA.out]
    go_wp2_with fail
    go_end0
    exact ⟨rfl, by unfold oneN; rw [HA.out]; have h5 := ct_set (m := c + 1 + 1) HC2.out; have e : c + 1 + 1 = c + ((if true = true then 2 else 1 : Nat) : Int) := (by simp; omega); rw [← e]; exact h5, HO2.out.trans ((Oth.refl b w1).set 0 _), fun W0 h hB => (HS2.out W0 h hB).setCell (p := ⟨b, 0, none⟩) hB _⟩

/-- What each does by the counter's closure. -/
def Counts (W0 : World) (b : Nat) (v : Value) (k : Nat) : Prop :=
  ∀ c w, Below W0.heap.size W0 w → CtAt w b c → 0 ≤ c → c + k + 2 ≤ 9223372036854775807 →
    Calls Tryd.prog 25 #[v, .func (.func 26) #[] #[.pointer (some ⟨b, 0, none⟩)]] w fun e w' => e = .returned (.tuple #[]) ∧ CtAt w' b (c + k) ∧ Oth b w w' ∧ Below W0.heap.size W0 w'

set_option maxRecDepth 100000 in
set_option maxHeartbeats 2000000 in
theorem each_leaf (W0 : World) (b : Nat) (hB : W0.heap.size ≤ b) (op nm : ByteArray) (v p q : Int) (hs : op.size ≤ 9223372036854775807) :
    Counts W0 b (.agg #[.string op, .int .i64 v, .string nm, .int .i64 p, .int .i64 q, .slice none 0 0]) (oneN op) := by
  intro c w hb hc h0 hm
  have hsz := hb.size
  have HB := Lib.hid hb
  have HC := Lib.hid hc
  have HC1 : Hid (∀ o, CtAt (w.alloc o) b c) := Lib.hid (fun o => ct_alloc hc o)
  have hbw := lt_of_bd hc
  clear hb hc
  go_enter Tryd.func25, Tryd.ntmps25
  go_wp2_with fail
  have hcall := see_any b c op nm v p q none 0 (w.alloc (.cells #[.string op, .int .i64 v, .string nm, .int .i64 p, .int .i64 q, .slice none 0 0] 36)) (HC1.out _) hs h0 (by omega)
  refine hcall.mono ?_
  clear hcall
  rintro e w1 ⟨rfl, hc1, ho1, hb1⟩
  have HP1 : Hid (w1.heap[w.heap.size]? = some (.cells #[.string op, .int .i64 v, .string nm, .int .i64 p, .int .i64 q, .slice none 0 0] 36)) := Lib.hid (ho1 _ _ _ _ (heap_alloc_last w _) (by decide) (by omega))
  have HC2 := Lib.hid hc1
  have HO2 : Hid (Oth b w w1) := Lib.hid ((Oth.below ((Below.refl _ _).alloc (Nat.le_refl _) _)).trans ho1)
  have HBb : Hid (Below W0.heap.size W0 w1) := Lib.hid (hb1 W0 (HB.out.alloc hsz _) hB)
  clear hc1 ho1 hb1
  obtain ⟨⟨c0, c1, c2, c3, c4, c5⟩, _⟩ := six_facts HP1.out
  go_wp2_with fail
  go_loopg [5, 12] 0 (fun g _ s12 wr => g = 0 ∧ s12 = .int .i64 0 ∧ w1 = wr)
  case atStart => exact ⟨rfl, rfl, rfl⟩
  case round =>
    obtain ⟨_, rfl, rfl⟩ := hrel
    go_wp2_with fail
    go_end0
    exact ⟨rfl, HC2.out, HO2.out, HBb.out⟩

end Go.Proofs.YtlmoeldillpamaaDoor
