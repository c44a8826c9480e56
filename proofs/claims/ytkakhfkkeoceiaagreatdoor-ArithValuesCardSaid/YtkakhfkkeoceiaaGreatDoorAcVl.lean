import Derived.Test.YtkakhfkkeoceiaaGreatDoorKVs
import Derived.Test.YtkakhfkkeoceiaaGreatDoorKNu
import Derived.Test.YtkakhfkkeoceiaaGreatDoorArUse
namespace Go.Proofs.YtkakhfkkeoceiaaGreatDoor
open Go.RowKit Go.WideMaps Go.Maps
def vxL : List Int := [32, 120]
theorem vx_parse : ∃ k, parseP vxL 40 = some (.ok (.name ⟨#[120]⟩ 1) k) := ⟨⟨0, 2, 2, sEmpty, 0, false⟩, by kernel_rfl⟩
set_option maxRecDepth 100000 in
set_option maxHeartbeats 8000000 in
theorem arithValues_any (val : ByteArray) (s : Nat → Addr) (w : World) (hz : val.size ≤ 9223372036854775807) (hs : Snt w s) (hT : TP w) : Calls Tryz.prog 5 #[.string val] w fun e w' => e = .returned (.bool true) ∧ Below w.heap.size w w' := by
 obtain ⟨k, hpar⟩ := vx_parse
 have HNW := Lib.hid new_var
 have HSE := Lib.hid (fun vb X hv => set_first vb ⟨#[120]⟩ val X hv (by decide) (by kernel_rfl))
 have HRN := Lib.hid (fun X => refNumber_any val X hz)
 have hfit := (numOf_fit val).2
 have hone : oneNum ⟨#[120]⟩ val ⟨#[120]⟩ = numOf val := by unfold oneNum oneV; rw [if_pos rfl]
 have hev : ev (oneNum ⟨#[120]⟩ val) (.name ⟨#[120]⟩ 1) [] = if (numOf val).2 = 0 then .ok (numOf val).1 [] else .bad (numOf val).2 1 := by
  show ldR _ _ _ _ = _
  unfold ldR
  rw [hone]
  rfl
 have HEV : Hid (∀ rv, ev (oneNum ⟨#[120]⟩ val) (.name ⟨#[120]⟩ 1) [] = rv → rv ≠ .no → (∀ x e, rv = .ok x e → e = []) → ∀ z vb mb X X', Below w.heap.size w X → OneAt X vb mb ⟨#[120]⟩ val → Below (X.heap.size + 1) (X.alloc (.cells #[.int .u8 32, .int .u8 120] 5 z)) X' → Calls Tryz.prog 23 #[.slice (some ⟨X.heap.size, 0, none⟩) 2 2, .pointer (some ⟨vb, 0, none⟩)] X' fun e w' => ValQ s rv e w' ∧ Below X'.heap.size X' w') := Lib.hid (fun rv hrv hno hk z vb mb X X' hX hO hb => by
  have hXX : Below X.heap.size X X' := ((Below.refl _ _).alloc (Nat.le_refl _) _).trans (hb.mono (Nat.le_succ _))
  have hb1 : Below w.heap.size w X' := hX.trans (hXX.mono hX.size)
  have hsl := sl_litA X vxL (byt_of (by decide)) (by decide) z
  have hsz : (X.alloc (.cells (vxL.map (Value.int .u8)).toArray 5 z)).heap.size = X.heap.size + 1 := by simp
  exact eval_ok _ vxL 40 _ k _ X' _ _ s hpar (byt_of (by decide)) (hsl.below (by rw [hsz]; exact hb)) (hs.below hb1).er (hT.below hb1) (fun W hW => env_one vb mb _ val W ((hO.below hXX).below hW) hz ((hT.below hb1).below hW)) rv hrv hno (Or.inr hk))
 have HS := Lib.hid hs
 have HTT := Lib.hid hT
 have kc := fun (w : World) (C : Array Value) (n c : Nat) => Lib.run_convert_bytes_const (P := Tryz.prog) w 39 5 C n c Tryz.underlying39 Tryz.underlying5
 generalize numOf val = r at *
 obtain ⟨rn, rc⟩ := r
 simp only at hev hfit
 clear hs hT hpar hone
 simp only at HRN
 by_cases hc : rc = 0
 ·have HE := Lib.hid (HEV.out (.ok rn []) (hev.trans (if_pos hc)) (by simp) (fun x e h => by cases h; rfl))
  subst hc
  clear HEV hev
  go_enter Tryz.func5, Tryz.ntmps5
  go_wp2_with fail
  refine (HNW.out w).mono ?_
  rintro e w1 ⟨rfl, hv, hb1⟩
  go_wp2_with fail
  refine (HSE.out _ w1 hv).mono ?_
  rintro e w2 ⟨rfl, ⟨mb, hO⟩, hsz2, hb2⟩
  have HB2 := Lib.hid (hb1.trans hb2)
  have HO := Lib.hid hO
  clear hv hb1 hO hsz2 hb2
  go_wp2_with fail
  refine (HE.out _ w.heap.size mb w2 _ HB2.out HO.out (Below.refl _ _)).mono ?_
  rintro e w3 ⟨he, hb3⟩
  obtain rfl : e = .returned (.tuple #[.int .i64 rn, .nilIface]) := he
  have hb23 : Below w2.heap.size w2 w3 := ((Below.refl _ _).alloc (Nat.le_refl _) _).trans (hb3.mono (by simp))
  have HB3 := Lib.hid (HB2.out.trans (hb23.mono HB2.out.size))
  clear hb3 hb23
  go_wp2_with fail
  refine (HRN.out w3).mono ?_
  rintro e w4 ⟨rfl, hb4⟩
  have HB4 := Lib.hid (HB3.out.trans (hb4.mono HB3.out.size))
  clear hb4
  go_wp2_with fail
  refine (awake4_any s w4 (HS.out.below HB4.out).er (HTT.out.below HB4.out)).mono ?_
  rintro e w5 ⟨rfl, hb5⟩
  have HB5 := Lib.hid (HB4.out.trans (hb5.mono HB4.out.size))
  clear hb5
  go_wp2_with fail
  go_ret
  exact ⟨rfl, HB5.out⟩
 ·have HE := Lib.hid (HEV.out (.bad rc 1) (hev.trans (if_neg hc)) (by simp) (fun x e h => by cases h))
  have hc1 : ¬ (rc : Int) = 0 := by omega
  clear HEV hev
  go_enter Tryz.func5, Tryz.ntmps5
  go_wp2_with fail
  refine (HNW.out w).mono ?_
  rintro e w1 ⟨rfl, hv, hb1⟩
  go_wp2_with fail
  refine (HSE.out _ w1 hv).mono ?_
  rintro e w2 ⟨rfl, ⟨mb, hO⟩, hsz2, hb2⟩
  have HB2 := Lib.hid (hb1.trans hb2)
  have HO := Lib.hid hO
  clear hv hb1 hO hsz2 hb2
  go_wp2_with fail
  refine (HE.out _ w.heap.size mb w2 _ HB2.out HO.out (Below.refl _ _)).mono ?_
  rintro e w3 ⟨⟨pv, rfl, her⟩, hb3⟩
  have HER := Lib.hid her
  clear her
  have hb23 : Below w2.heap.size w2 w3 := ((Below.refl _ _).alloc (Nat.le_refl _) _).trans (hb3.mono (by simp))
  have HB3 := Lib.hid (HB2.out.trans (hb23.mono HB2.out.size))
  clear hb3 hb23
  go_wp2_with fail
  refine (HRN.out w3).mono ?_
  rintro e w4 ⟨rfl, hb4⟩
  have HB4 := Lib.hid (HB3.out.trans (hb4.mono HB3.out.size))
  have HER4 := Lib.hid (HER.out.below hb4)
  clear hb4
  go_wp2_with fail
  refine (tell_err s rc 1 _ w4 (HS.out.below HB4.out) HER4.out (by omega) (by omega)).mono ?_
  rintro e w5 ⟨rfl, hb5⟩
  have HB5 := Lib.hid (HB4.out.trans (hb5.mono HB4.out.size))
  clear hb5
  go_wp2_with fail
  refine (awake4_any s w5 (HS.out.below HB5.out).er (HTT.out.below HB5.out)).mono ?_
  rintro e w6 ⟨rfl, hb6⟩
  have HB6 := Lib.hid (HB5.out.trans (hb6.mono HB5.out.size))
  clear hb6
  go_wp2_with fail
  go_ret
  exact ⟨rfl, HB6.out⟩
end Go.Proofs.YtkakhfkkeoceiaaGreatDoor
