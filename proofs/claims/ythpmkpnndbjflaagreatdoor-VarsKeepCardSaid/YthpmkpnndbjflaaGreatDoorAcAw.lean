/- Variables of which none is set, and none at all; stage 4's awake. -/
import Derived.Test.YthpmkpnndbjflaaGreatDoorKRk
import Derived.Lib.SlBytesConst
namespace Go.Proofs.YthpmkpnndbjflaaGreatDoor
open Go.RowKit Go.WideMaps Go.Maps

theorem sl_litA (w : World) (l : List Int) (hb : Byt l) (hl : l.length ≤ 1000000) (z : Nat × Nat) : Sl (w.alloc (.cells (l.map (Value.int .u8)).toArray 5 z)) (.slice (some ⟨w.heap.size, 0, none⟩) l.length l.length) l := by
  refine ⟨hb, by omega, Or.inr ⟨w.heap.size, 0, l.length, rfl, Nat.le_refl _, by omega, fun i hi => ?_⟩⟩
  rw [World.cell?_alloc_mark]
  simp [List.getD_eq_getElem?_getD, List.getElem?_eq_getElem hi]
theorem zeroVar (w : World) : (zeroValue 74).run Tryz.prog w = .ok (.agg #[.string ⟨#[]⟩, .string ⟨#[]⟩]) w := by kernel_rfl
set_option maxHeartbeats 2000000 in
theorem new_var (w : World) : Calls Tryz.prog 37 #[] w fun e w' => e = .returned (.pointer (some ⟨w.heap.size, 0, none⟩)) ∧ w'.heap[w.heap.size]? = some (.cells #[.map none] 81 (0, 0)) ∧ Below w.heap.size w w' := by
  go_enter Tryz.func37, Tryz.ntmps37
  go_wp2_with fail
  go_ret
  exact ⟨rfl, last_A w _, (Below.refl _ _).alloc (Nat.le_refl _) _⟩
set_option maxHeartbeats 2000000 in
theorem get_new (vb : Nat) (n : ByteArray) (w : World) (hv : w.heap[vb]? = some (.cells #[.map none] 81 (0, 0))) (hn : n.size ≤ maxLen) : Calls Tryz.prog 16 #[.pointer (some ⟨vb, 0, none⟩), .string n] w fun e w' => e = .returned (.tuple #[.string ⟨#[]⟩, .bool false]) ∧ Below w.heap.size w w' := by
  obtain ⟨c0, _, hz⟩ := cells1A hv
  have hlk := Maps.look_nil (P := Tryz.prog) (w := w) true lawS Tryz.underlying79 (zeroVar w) (KL.key hn)
  clear hv
  go_enter Tryz.func16, Tryz.ntmps16
  go_wp2_with fail
  go_ret2
  exact ⟨rfl, (Below.refl _ _).alloc (Nat.le_refl _) _⟩
set_option maxHeartbeats 2000000 in
theorem numberOf_none (w : World) : Calls Tryz.prog 162 #[.string ⟨#[]⟩] w fun e w' => e = .returned (.tuple #[.int .i64 0, .int .i64 0]) ∧ w = w' := by
  go_enter Tryz.func162, Tryz.ntmps162
  go_wp2_with fail
  go_ret2
  exact ⟨rfl, rfl⟩
def NV0 : ByteArray → Int × Nat := fun _ => (0, 0)
theorem env_new (vb : Nat) (w : World) (hv : w.heap[vb]? = some (.cells #[.map none] 81 (0, 0))) : EnvC w.heap.size (some ⟨vb, 0, none⟩) w (fun _ => ⟨#[]⟩) NV0 where
  get n X hn hX := (get_new vb n X ((hX.block vb (lt_blkA hv)).trans hv) hn).mono (by rintro e w' ⟨rfl, hb⟩; exact ⟨⟨_, rfl⟩, hb⟩)
  num n X _ := (numberOf_none X).mono (by rintro e w' ⟨rfl, rfl⟩; exact ⟨rfl, Below.refl _ _⟩)
  fit n := ⟨by unfold I64 NV0; omega, by unfold NV0; omega⟩

def awL4 : List Int := [49, 43, 50, 42, 51]
def awT4 : Tr := .bin ⟨#[43]⟩ 1 (.num 1 0) (.bin ⟨#[42]⟩ 3 (.num 2 2) (.num 3 4))
theorem aw4_parse : ∃ k, parseP awL4 40 = some (.ok awT4 k) := ⟨⟨0, 5, 5, sEmpty, 0, false⟩, by kernel_rfl⟩
theorem byt_of {l : List Int} (h : l.all (fun x => decide (0 ≤ x) && decide (x ≤ 255)) = true) : Byt l := fun i => by
  rw [List.getD_eq_getElem?_getD]
  cases hi : l[i]? with
  | none => simp
  | some x =>
    have := List.all_eq_true.1 h x (List.mem_of_getElem? hi)
    simp at this ⊢
    omega
theorem aw4_ev : ev NV0 awT4 [] = .ok 7 [] := by kernel_rfl

set_option maxRecDepth 100000 in
set_option maxHeartbeats 4000000 in
theorem awake4_any (s : Nat → Addr) (w : World) (hs : Er w s) (hT : TP w) : Calls Tryz.prog 19 #[] w fun e w' => e = .returned (.bool true) ∧ Below w.heap.size w w' := by
  obtain ⟨k, hpar⟩ := aw4_parse
  have HEV : Hid (∀ z vb X, Below w.heap.size (w.alloc (.cells #[.int .u8 49, .int .u8 43, .int .u8 50, .int .u8 42, .int .u8 51] 5 z)) X → Below (w.heap.size + 1) (w.alloc (.cells #[.int .u8 49, .int .u8 43, .int .u8 50, .int .u8 42, .int .u8 51] 5 z)) X → X.heap[vb]? = some (.cells #[.map none] 81 (0, 0)) →
      Calls Tryz.prog 20 #[.slice (some ⟨w.heap.size, 0, none⟩) 5 5, .pointer (some ⟨vb, 0, none⟩)] X fun e w' => e = .returned (.tuple #[.int .i64 7, .nilIface]) ∧ Below X.heap.size X w') := Lib.hid (fun z vb X hb0 hb hv => by
    have hb1 : Below w.heap.size w X := ((Below.refl _ _).alloc (Nat.le_refl _) _).trans hb0
    have hsl := sl_litA w awL4 (byt_of (by decide)) (by decide) z
    have hsz : (w.alloc (.cells (awL4.map (Value.int .u8)).toArray 5 z)).heap.size = w.heap.size + 1 := by simp
    refine (eval_ok _ awL4 40 awT4 k _ X (fun _ => ⟨#[]⟩) NV0 s hpar (byt_of (by decide)) (hsl.below (by rw [hsz]; exact hb)) (hs.below hb1) (hT.below hb1) (fun W hW => env_new vb W (blk_belowA hv hW)) _ aw4_ev (by simp) (Or.inr fun x e h => by cases h; rfl)).mono ?_
    rintro e w' ⟨he, hb'⟩
    exact ⟨he, hb'⟩)
  have HNW := Lib.hid new_var
  obtain ⟨W0, hW0⟩ : ∃ W0, W0 = w.alloc (.cells #[.int .u8 49, .int .u8 43, .int .u8 50, .int .u8 42, .int .u8 51] 5 (5, 6)) := ⟨_, rfl⟩
  have hsz : W0.heap.size = w.heap.size + 1 := by rw [hW0]; simp
  have HB0 : Hid (Below w.heap.size w W0) := Lib.hid (by rw [hW0]; exact (Below.refl _ _).alloc (Nat.le_refl _) _)
  have HW0 := Lib.hid hW0
  have HSZ := Lib.hid hsz
  have kc := fun (w : World) (C : Array Value) (n c : Nat) => Lib.run_convert_bytes_const (P := Tryz.prog) w 39 5 C n c Tryz.underlying39 Tryz.underlying5
  clear hs hT hpar hW0 hsz
  go_enter Tryz.func19, Tryz.ntmps19
  go_wp2_with fail
  rw [← HW0.out]
  refine (HNW.out W0).mono ?_
  rintro e w1 ⟨rfl, hv, hb1⟩
  rw [HSZ.out] at hv hb1 ⊢
  have HB1 := Lib.hid (HB0.out.trans (hb1.mono (Nat.le_succ _)))
  have HEC := Lib.hid (HEV.out (5, 6) (w.heap.size + 1) w1 (by rw [← HW0.out]; exact hb1.mono (Nat.le_succ _)) (by rw [← HW0.out]; exact hb1) hv)
  clear hv hb1
  go_wp2_with fail
  refine HEC.out.mono ?_
  rintro e w2 ⟨rfl, hb2⟩
  have HB2 := Lib.hid (HB1.out.trans (hb2.mono HB1.out.size))
  clear hb2
  go_wp2_with fail
  go_ret
  exact ⟨rfl, HB2.out⟩
end Go.Proofs.YthpmkpnndbjflaaGreatDoor
