/- Stage 3's awake. -/
import Derived.Test.YtacfglopionkfaaGreatDoorArText
import Derived.Lib.SlBytesConst
namespace Go.Proofs.YtacfglopionkfaaGreatDoor
open Go.RowKit

/-- 1+2*x, as a text, as a tree, as what is written. -/
def awL : List Int := [49, 43, 50, 42, 120]
def awT : Tr := .bin ⟨#[43]⟩ 1 (.num 1 0) (.bin ⟨#[42]⟩ 3 (.num 2 2) (.name ⟨#[120]⟩ 4))
def awTx : List UInt8 := [40, 43, 32, 49, 32, 40, 42, 32, 50, 32, 120, 41, 41]
theorem aw_parse : parseP awL 40 = some (.ok awT ⟨0, 5, 5, sEmpty, 0, false⟩) := by kernel_rfl
theorem aw_wf : awT.Wf := by
  refine ⟨⟨by decide, by decide, by decide⟩, by constructor <;> omega, ⟨by decide, by decide, by decide⟩, by constructor <;> omega, trivial⟩
theorem aw_itoa (n : Int) (h0 : 0 ≤ n) (h1 : n < 10) : Lib.itoa n = [UInt8.ofNat (48 + n.toNat)] := by
  unfold Lib.itoa
  rw [if_neg (by omega), Lib.decDigits_one (by omega)]
theorem aw_cells : cellsT awT = Lib.byteCells awTx := by
  unfold awT
  simp only [cellsT]
  rw [aw_itoa 1 (by omega) (by omega), aw_itoa 2 (by omega) (by omega)]
  kernel_rfl

theorem aw_sl (w : World) (z : Nat × Nat) : Sl (w.alloc (.cells #[.int .u8 49, .int .u8 43, .int .u8 50, .int .u8 42, .int .u8 120] 5 z)) (.slice (some ⟨w.heap.size, 0, none⟩) 5 5) awL := by
  refine ⟨?_, by simp [awL], Or.inr ⟨w.heap.size, 0, 5, rfl, by simp [awL], by simp, ?_⟩⟩
  · intro i
    match i with
    | 0 => simp [awL]
    | 1 => simp [awL]
    | 2 => simp [awL]
    | 3 => simp [awL]
    | 4 => simp [awL]
    | i + 5 => simp [awL]
  · intro i hi
    match i, hi with
    | 0, _ => rw [World.cell?_alloc_mark]; rfl
    | 1, _ => rw [World.cell?_alloc_mark]; rfl
    | 2, _ => rw [World.cell?_alloc_mark]; rfl
    | 3, _ => rw [World.cell?_alloc_mark]; rfl
    | 4, _ => rw [World.cell?_alloc_mark]; rfl
    | i + 5, hi => simp [awL] at hi; omega

set_option maxRecDepth 100000 in
set_option maxHeartbeats 2000000 in
theorem arAwake_any (s : Nat → Addr) (w : World) (hs : Er w s) (hT : TP w) :
    Calls Tryz.prog 12 #[] w fun e w' => e = .returned (.bool true) ∧ Below w.heap.size w w' := by
  have HP : Hid (∀ z, Calls Tryz.prog 9 #[.slice (some ⟨w.heap.size, 0, none⟩) 5 5] (w.alloc (.cells #[.int .u8 49, .int .u8 43, .int .u8 50, .int .u8 42, .int .u8 120] 5 z)) fun e w' => Told s (w.alloc (.cells #[.int .u8 49, .int .u8 43, .int .u8 50, .int .u8 42, .int .u8 120] 5 z)).heap.size (.ok awT ⟨0, 5, 5, sEmpty, 0, false⟩) e w' ∧ Below (w.alloc (.cells #[.int .u8 49, .int .u8 43, .int .u8 50, .int .u8 42, .int .u8 120] 5 z)).heap.size (w.alloc (.cells #[.int .u8 49, .int .u8 43, .int .u8 50, .int .u8 42, .int .u8 120] 5 z)) w') := Lib.hid (fun z => parse_any _ awL 40 _ s _ aw_parse (aw_sl w z) (hs.below ((Below.refl _ _).alloc (Nat.le_refl _) _)))
  have HTT := Lib.hid hT
  have kc := fun (w : World) (C : Array Value) (n c : Nat) => Lib.run_convert_bytes_const (P := Tryz.prog) w 22 5 C n c Tryz.underlying22 Tryz.underlying5
  clear hs hT
  go_enter Tryz.func12, Tryz.ntmps12
  go_wp2_with fail
  refine (HP.out _).mono ?_
  rintro e w1 ⟨⟨E, o, m, rfl, hE, hEx, hIn⟩, hb⟩
  have HX : Hid (ExAt w1 E awT) := Lib.hid ⟨o, m, hEx, hIn.mono (Nat.zero_le _) _ _⟩
  have HB : Hid (Below w.heap.size w w1) := Lib.hid (((Below.refl _ _).alloc (Nat.le_refl _) _).trans (hb.mono (by simp)))
  clear hE hEx hIn hb
  have HTe := Lib.hid (text_any E awT awTx w1 HX.out aw_wf (HTT.out.below HB.out) aw_cells (by decide))
  go_wp2_with fail
  refine HTe.out.mono ?_
  rintro e w2 ⟨rfl, hb2⟩
  have HB2 : Hid (Below w.heap.size w w2) := Lib.hid (HB.out.trans (hb2.mono HB.out.size))
  clear hb2
  unfold awTx
  go_wp2_with fail
  go_ret
  exact ⟨rfl, HB2.out⟩

end Go.Proofs.YtacfglopionkfaaGreatDoor
