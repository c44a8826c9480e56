import Derived.Test.YtkakhfkkeoceiaaGreatDoorAcAw
import Derived.Test.YtkakhfkkeoceiaaGreatDoorArUse
namespace Go.Proofs.YtkakhfkkeoceiaaGreatDoor
open Go.RowKit Go.WideMaps Go.Maps
set_option maxHeartbeats 2000000 in
theorem tree_nilA (w : World) : Calls Tryz.prog 57 #[.pointer none] w fun e w' => e = .returned (.agg #[.string ⟨#[]⟩, .int .i64 0, .string ⟨#[]⟩, .int .i64 0, .int .i64 0, .slice none 0 0]) ∧ Below w.heap.size w w' := by
 go_enter Tryz.func57, Tryz.ntmps57
 go_wp2_with (go_at_call 59; refine (isNone_nil _).mono ?_; rintro e w' ⟨rfl, rfl⟩)
 exact bodyPost_ret (results_ar rfl _ _ w.heap.size _ rfl (heap_alloc_last w _) rfl) rfl ⟨rfl, (Below.refl _ _).alloc (Nat.le_refl _) _⟩
set_option maxHeartbeats 4000000 in
theorem compile_nil (w : World) : Calls Tryz.prog 29 #[.pointer none] w fun e w' => e = .returned (.pointer none) ∧ Below w.heap.size w w' := by
 have HT := Lib.hid tree_nilA
 go_enter Tryz.func29, Tryz.ntmps29
 go_wp2_with fail
 refine (HT.out w).mono ?_
 rintro e w1 ⟨rfl, hb1⟩
 have HB1 := Lib.hid hb1
 clear hb1
 go_wp2_with fail
 go_ret
 exact ⟨rfl, HB1.out.alloc HB1.out.size _⟩
set_option maxHeartbeats 2000000 in
theorem list_nil (w : World) : Calls Tryz.prog 14 #[.pointer none] w fun e w' => e = .returned (.slice none 0 0) ∧ w = w' := by
 go_enter Tryz.func14, Tryz.ntmps14
 go_wp2_with fail
 go_ret
 exact ⟨rfl, rfl⟩
def xl4 : List Int := [120, 32, 61, 32, 52]
def xt4 : Tr := .asg ⟨#[61]⟩ ⟨#[120]⟩ 0 2 (.num 4 4)
theorem xl4_parse : ∃ k, parseP xl4 40 = some (.ok xt4 k) := ⟨⟨0, 5, 5, sEmpty, 0, false⟩, by kernel_rfl⟩
theorem xl4_ev : ev NV0 xt4 [] = .ok 4 [(⟨#[120]⟩, 4)] := by kernel_rfl
set_option maxRecDepth 100000 in
set_option maxHeartbeats 8000000 in
theorem arithNil_any (s : Nat → Addr) (w : World) (hs : Snt w s) (hT : TP w) : Calls Tryz.prog 7 #[] w fun e w' => e = .returned (.bool true) ∧ Below w.heap.size w w' := by
 obtain ⟨k, hpar⟩ := xl4_parse
 have HNW := Lib.hid new_var
 have HS := Lib.hid hs
 have HTT := Lib.hid hT
 have HRN : Hid (∀ a W, Below w.heap.size w W → Calls Tryz.prog 33 #[.pointer none, .pointer a] W fun e w' => (∃ pv, e = .returned (.tuple #[.int .i64 0, .iface 96 pv]) ∧ ErrAt w' s 1 0 (.iface 96 pv)) ∧ Below W.heap.size W w') := Lib.hid (fun a W hW => run_nil a s W (hs.below hW).er)
 have HEV : Hid (∀ z X X', Below w.heap.size w X → Below (X.heap.size + 1) (X.alloc (.cells #[.int .u8 120, .int .u8 32, .int .u8 61, .int .u8 32, .int .u8 52] 5 z)) X' → Calls Tryz.prog 23 #[.slice (some ⟨X.heap.size, 0, none⟩) 5 5, .pointer none] X' fun e w' => e = .returned (.tuple #[.int .i64 4, .nilIface]) ∧ Below X'.heap.size X' w') := Lib.hid (fun z X X' hX hb => by
  have hb1 : Below w.heap.size w X' := hX.trans ((((Below.refl _ _).alloc (Nat.le_refl _) _).trans (hb.mono (Nat.le_succ _))).mono hX.size)
  have hsl := sl_litA X xl4 (byt_of (by decide)) (by decide) z
  have hsz : (X.alloc (.cells (xl4.map (Value.int .u8)).toArray 5 z)).heap.size = X.heap.size + 1 := by simp
  refine (eval_ok _ xl4 40 xt4 k none X' (fun _ => ⟨#[]⟩) NV0 s hpar (byt_of (by decide)) (hsl.below (by rw [hsz]; exact hb)) (hs.below hb1).er (hT.below hb1) (fun W _ => env_nil W) _ xl4_ev (by simp) (Or.inl rfl)).mono ?_
  rintro e w' ⟨he, hb'⟩
  exact ⟨he, hb'⟩)
 have kc := fun (w : World) (C : Array Value) (n c : Nat) => Lib.run_convert_bytes_const (P := Tryz.prog) w 39 5 C n c Tryz.underlying39 Tryz.underlying5
 clear hs hT hpar
 go_enter Tryz.func7, Tryz.ntmps7
 go_wp2_with fail
 refine (HNW.out w).mono ?_
 rintro e w1 ⟨rfl, hv, hb1⟩
 have HB1 := Lib.hid hb1
 clear hv hb1
 go_wp2_with fail
 refine (HRN.out _ w1 HB1.out).mono ?_
 rintro e w2 ⟨⟨pv, rfl, her⟩, hb2⟩
 have HER := Lib.hid her
 have HB2 := Lib.hid (HB1.out.trans (hb2.mono HB1.out.size))
 clear her hb2
 go_wp2_with fail
 refine (HEV.out _ w2 _ HB2.out (Below.refl _ _)).mono ?_
 rintro e w3 ⟨rfl, hb3⟩
 have hb23 : Below w2.heap.size w2 w3 := ((Below.refl _ _).alloc (Nat.le_refl _) _).trans (hb3.mono (by simp))
 have HER3 : Hid (ErrAt w3 s 1 0 (.iface 96 pv)) := Lib.hid (HER.out.below hb23)
 have HB3 := Lib.hid (HB2.out.trans (hb23.mono HB2.out.size))
 clear hb3 hb23
 go_wp2_with fail
 refine (get_nil _ w3).mono ?_
 rintro e w4 ⟨rfl, rfl⟩
 go_wp2_with fail
 refine (tell_err s 1 0 _ w3 (HS.out.below HB3.out) HER3.out (by omega) (by omega)).mono ?_
 rintro e w4 ⟨rfl, hb4⟩
 have HB4 := Lib.hid (HB3.out.trans (hb4.mono HB3.out.size))
 clear hb4
 go_wp2_with fail
 refine (clen_nil w4).mono ?_
 rintro e w5 ⟨rfl, rfl⟩
 go_wp2_with fail
 refine (steps_nil _ ⟨_, rfl⟩ w4).mono ?_
 rintro e w5 ⟨rfl, rfl⟩
 go_wp2_with fail
 refine (compile_nil w4).mono ?_
 rintro e w5 ⟨rfl, hb5⟩
 have HB5 := Lib.hid (HB4.out.trans (hb5.mono HB4.out.size))
 clear hb5
 go_wp2_with fail
 refine (set_nil _ _ w5).mono ?_
 rintro e w6 ⟨rfl, rfl⟩
 go_wp2_with fail
 refine (list_nil w5).mono ?_
 rintro e w6 ⟨rfl, rfl⟩
 go_wp2_with fail
 refine (awake4_any s w5 (HS.out.below HB5.out).er (HTT.out.below HB5.out)).mono ?_
 rintro e w6 ⟨rfl, hb6⟩
 have HB6 := Lib.hid (HB5.out.trans (hb6.mono HB5.out.size))
 clear hb6
 go_wp2_with fail
 go_ret
 exact ⟨rfl, HB6.out⟩
end Go.Proofs.YtkakhfkkeoceiaaGreatDoor
