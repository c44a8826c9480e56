/- Proved here: a pattern matches a subject just if its longest beginning is all of it, and if its longest end begins at the front; the shortest is no longer than the longest; each of the four parts is matched. Condition: the sentinels' variables and the listed table read as the row lists them, which the tie gives. -/
import Derived.Test.YtopnckfmdjhbjaaDoorGlPar
import Derived.Test.YtopnckfmdjhbjaaDoorSeOpn
import Derived.Test.YtopnckfmdjhbjaaDoorFaSents
import Derived.Test.YtopnckfmdjhbjaaDoorRows
import Derived.LaidSub
import Derived.MakeChecks
import Derived.Test.YtopnckfmdjhbjaaDoorGmM3
import Derived.Test.YtopnckfmdjhbjaaDoorCards
import Derived.Test.YtopnckfmdjhbjaaDoorTie
import Derived.Lay
import Derived.SizedLaws
import Derived.ProofKit
import Derived.LaidMore
import Derived.Stop.Joined
import Derived.Carry
/- From the row's condition to what stage 7's walks want. -/
namespace Go.Proofs.YtopnckfmdjhbjaaDoor
open Go.RowKit

def sentKeep (x : String × DataW Unit) : Bool := (sentNames.map (·.1)).contains x.1
def tabKeep (x : String × DataW Unit) : Bool := x.1 == "math/bits.deBruijn64tab"
theorem gm_of_laid {W : World} {L : List (String × DataW Unit)} (h1 : L.filter tabKeep = [("math/bits.deBruijn64tab", Lib.tabData .u8 bruijnZ)]) (h2 : L.filter sentKeep = sentNames.map sd) (h : laidMetH Tryd.prog L W) :
    ∃ e, Es W W.heap.size e ∧ TZ W := by
  have h' := laidMetH.filter sentKeep h
  rw [h2, MakeChecks.laidMetH_plain _ _ _ (by kernel_rfl)] at h'
  obtain ⟨sl, _, hv⟩ := sents_vars h'
  have h3 := laidMetH.filter tabKeep h
  rw [h1, MakeChecks.laidMetH_plain _ _ _ (by kernel_rfl)] at h3
  have hT := tz_of_head h3
  refine ⟨fun k => sl.getD (k - 1) ⟨0, 0, none⟩, ⟨hv, ?_, Nat.le_refl _⟩, hT⟩
  have a := World.block_lt_of_cell? _ _ (hv 21 (by omega) (by omega))
  have b := World.block_lt_of_cell? _ _ (hT 0 (by decide))
  simp at a b
  omega
end Go.Proofs.YtopnckfmdjhbjaaDoor
/- GmatchWhole: its walk, opened (gen_gwh.py). -/
namespace Go.Proofs.YtopnckfmdjhbjaaDoor
open Go.RowKit

/-- A slice from a place on, a slice up to a place. -/
def cutA (a : Option Addr) (cap u : Nat) : Option Addr := if cap = u then a else Option.map (fun x => x.add u) a
theorem add_zeroA (x : Addr) : x.add 0 = x := by cases x; simp [Addr.add]
theorem cutA_zero (a : Option Addr) (cap : Nat) : (if cap = 0 then a else Option.map (fun x => x.add 0) a) = a := by
  by_cases h : cap = 0
  · rw [if_pos h]
  · rw [if_neg h]; cases a <;> simp [add_zeroA]
theorem Sl.from {w : World} {a : Option Addr} {cap : Nat} {s : List Int} (h : Sl w (.slice a s.length cap) s) (u : Nat) (hu : u ≤ s.length) : Sl w (.slice (cutA a cap u) (s.length - u) (cap - u)) (s.drop u) := by
  rcases h.2.2 with ⟨rfl, a', cap', he⟩ | ⟨b, o, cap', he, hlc, hcm, hrow⟩
  · have hu0 : u = 0 := by simpa using hu
    subst hu0
    exact ⟨h.1, h.2.1, Or.inl ⟨rfl, _, _, rfl⟩⟩
  · simp only [Value.slice.injEq] at he
    obtain ⟨rfl, _, rfl⟩ := he
    by_cases hc : cap = u
    · have hd : s.drop u = [] := List.drop_of_length_le (by omega)
      rw [hd]
      exact ⟨fun i => by simp, by simp, Or.inl ⟨rfl, cutA (some ⟨b, o, none⟩) cap u, cap - u, by rw [show s.length - u = 0 by omega]⟩⟩
    · have e : cutA (some ⟨b, o, none⟩) cap u = some ⟨b, o + u, none⟩ := by unfold cutA; rw [if_neg hc]; simp [WideShapes.add_plain]
      rw [e]
      exact Sl.drop h.1 h.2.1 hlc hcm hrow u hu
theorem Sl.upto {w : World} {a : Option Addr} {cap : Nat} {s : List Int} (h : Sl w (.slice a s.length cap) s) (x : Nat) (hx : x ≤ s.length) : Sl w (.slice a x cap) (s.take x) := by
  rcases h.2.2 with ⟨rfl, a', cap', he⟩ | ⟨b, o, cap', he, hlc, hcm, hrow⟩
  · have hx0 : x = 0 := by simpa using hx
    subst hx0
    exact h
  · simp only [Value.slice.injEq] at he
    obtain ⟨rfl, _, rfl⟩ := he
    have hl : (s.take x).length = x := by simp; omega
    refine ⟨fun i => ?_, by omega, Or.inr ⟨b, o, cap, by rw [hl], by omega, hcm, fun i hi => ?_⟩⟩
    · by_cases hi : i < x
      · have := h.1 i
        rwa [show (s.take x).getD i 0 = s.getD i 0 by simp [List.getD, hi]]
      · rw [List.getD, List.getElem?_eq_none (by omega)]; simp
    · rw [hl] at hi
      rw [show (s.take x).getD i 0 = s.getD i 0 by simp [List.getD, hi]]
      exact hrow i (by omega)
theorem Sl.cap {w : World} {a : Option Addr} {cap : Nat} {s : List Int} (h : Sl w (.slice a s.length cap) s) : s.length ≤ cap := by
  rcases h.2.2 with ⟨rfl, a', cap', he⟩ | ⟨b, o, cap', he, hlc, hcm, hrow⟩
  · simp
  · simp only [Value.slice.injEq] at he
    rw [he.2.2]; exact hlc
theorem Sl.lit {w : World} {v : Value} {s : List Int} (h : Sl w v s) : ∃ a cap, v = .slice a s.length cap := by
  rcases h.2.2 with ⟨rfl, a, cap, rfl⟩ | ⟨b, o, cap, rfl, _⟩
  · exact ⟨a, cap, rfl⟩
  · exact ⟨_, cap, rfl⟩

set_option maxRecDepth 100000 in
set_option maxHeartbeats 4000000 in
theorem gwh_nil (w : World) (v0 v1 : Value) (a : Option Addr) (len cap : Nat)
    (HF : ∀ X, Calls Tryd.prog 12 #[v1] X fun e w' => e = .returned (.slice a len cap) ∧ w' = X)
    (HR : Calls Tryd.prog 13 #[v0] w fun x w' => x = .returned (.pointer none) ∧ Below w.heap.size w w')
    (HA : Hid (∀ X, Below w.heap.size w X → Calls Tryd.prog 16 #[] X fun x w' => x = .returned (.bool true) ∧ Below X.heap.size X w')) :
    Calls Tryd.prog 7 #[v0, v1] w fun x w' => x = .returned (.bool true) ∧ Below w.heap.size w w' := by
  have HFH := Lib.hid HF
  have HRH := Lib.hid HR
  clear HF HR
  go_enter Tryd.func7, Tryd.ntmps7
  go_wp2_with fail
  refine (HFH.out _).mono ?_
  rintro x w0 ⟨rfl, rfl⟩
  go_wp2_with fail
  refine HRH.out.mono ?_
  rintro x w1 ⟨rfl, hb1⟩
  have HB1 := Lib.hid hb1
  clear hb1
  have hge : ¬ (len : Int) < 0 := by omega
  go_wp2_with fail
  refine (match_nil _ _).mono ?_
  rintro x w2 ⟨rfl, rfl⟩
  go_wp2_with fail
  refine (prefix_nil _ _ _).mono ?_
  rintro x w2 ⟨rfl, rfl⟩
  go_wp2_with fail
  refine (prefix_nil _ _ _).mono ?_
  rintro x w2 ⟨rfl, rfl⟩
  go_wp2_with fail
  refine (suffix_nil _ _ _).mono ?_
  rintro x w2 ⟨rfl, rfl⟩
  go_wp2_with fail
  refine (suffix_nil _ _ _).mono ?_
  rintro x w2 ⟨rfl, rfl⟩
  go_wp2_with fail
  refine (HA.out _ HB1.out).mono ?_
  rintro x w3 ⟨rfl, hb3⟩
  have HB3 := Lib.hid (below_thn HB1.out (Nat.le_refl _) hb3)
  clear hb3
  go_wp2
  go_ret
  exact ⟨rfl, HB3.out⟩
set_option maxRecDepth 100000 in
set_option maxHeartbeats 4000000 in
theorem gwh_all (w : World) (v0 v1 : Value) (a : Option Addr) (len cap : Nat) (ps : List Pc) (hlc : len ≤ cap) (x y : Nat) (hyx : y ≤ x) (_hxl : x ≤ len) (hxe : x = len) (u v : Nat) (huv : u ≤ v) (hvl : v ≤ len) (hue : u = 0)
    (HF : ∀ X, Calls Tryd.prog 12 #[v1] X fun e w' => e = .returned (.slice a len cap) ∧ w' = X)
    (HR : Calls Tryd.prog 13 #[v0] w fun x w' => ∃ b, x = .returned (.pointer (some ⟨b, 0, none⟩)) ∧ PatAt w.heap.size b ps w' ∧ Below w.heap.size w w')
    (HA : Hid (∀ X, Below w.heap.size w X → Calls Tryd.prog 16 #[] X fun x w' => x = .returned (.bool true) ∧ Below X.heap.size X w'))
    (HM : Hid (∀ (b : Nat) (X : World), Below w.heap.size w X → PatAt w.heap.size b ps X → Calls Tryd.prog 15 #[.pointer (some ⟨b, 0, none⟩), .slice a len cap] X fun e w' => e = .returned (.bool true) ∧ Below X.heap.size X w'))
    (HX : Hid (∀ (b : Nat) (X : World), Below w.heap.size w X → PatAt w.heap.size b ps X → Calls Tryd.prog 17 #[.pointer (some ⟨b, 0, none⟩), .slice a len cap, .bool true] X fun e w' => e = .returned (.tuple #[.int .i64 (x : Nat), .bool true]) ∧ Below X.heap.size X w'))
    (HY : Hid (∀ (b : Nat) (X : World), Below w.heap.size w X → PatAt w.heap.size b ps X → Calls Tryd.prog 17 #[.pointer (some ⟨b, 0, none⟩), .slice a len cap, .bool false] X fun e w' => e = .returned (.tuple #[.int .i64 (y : Nat), .bool true]) ∧ Below X.heap.size X w'))
    (HU : Hid (∀ (b : Nat) (X : World), Below w.heap.size w X → PatAt w.heap.size b ps X → Calls Tryd.prog 19 #[.pointer (some ⟨b, 0, none⟩), .slice a len cap, .bool true] X fun e w' => e = .returned (.tuple #[.int .i64 (u : Nat), .bool true]) ∧ Below X.heap.size X w'))
    (HV : Hid (∀ (b : Nat) (X : World), Below w.heap.size w X → PatAt w.heap.size b ps X → Calls Tryd.prog 19 #[.pointer (some ⟨b, 0, none⟩), .slice a len cap, .bool false] X fun e w' => e = .returned (.tuple #[.int .i64 (v : Nat), .bool true]) ∧ Below X.heap.size X w'))
    (HMX : Hid (∀ (b : Nat) (X : World), Below w.heap.size w X → PatAt w.heap.size b ps X → Calls Tryd.prog 15 #[.pointer (some ⟨b, 0, none⟩), .slice a x cap] X fun e w' => e = .returned (.bool true) ∧ Below X.heap.size X w'))
    (HMY : Hid (∀ (b : Nat) (X : World), Below w.heap.size w X → PatAt w.heap.size b ps X → Calls Tryd.prog 15 #[.pointer (some ⟨b, 0, none⟩), .slice a y cap] X fun e w' => e = .returned (.bool true) ∧ Below X.heap.size X w'))
    (HMU : Hid (∀ (b : Nat) (X : World), Below w.heap.size w X → PatAt w.heap.size b ps X → Calls Tryd.prog 15 #[.pointer (some ⟨b, 0, none⟩), .slice (cutA a cap u) (len - u) (cap - u)] X fun e w' => e = .returned (.bool true) ∧ Below X.heap.size X w'))
    (HMV : Hid (∀ (b : Nat) (X : World), Below w.heap.size w X → PatAt w.heap.size b ps X → Calls Tryd.prog 15 #[.pointer (some ⟨b, 0, none⟩), .slice (cutA a cap v) (len - v) (cap - v)] X fun e w' => e = .returned (.bool true) ∧ Below X.heap.size X w')) :
    Calls Tryd.prog 7 #[v0, v1] w fun x w' => x = .returned (.bool true) ∧ Below w.heap.size w w' := by
  have HFH := Lib.hid HF
  have HRH := Lib.hid HR
  clear HF HR
  go_enter Tryd.func7, Tryd.ntmps7
  go_wp2_with fail
  refine (HFH.out _).mono ?_
  rintro x w0 ⟨rfl, rfl⟩
  go_wp2_with fail
  refine HRH.out.mono ?_
  rintro x w1 ⟨b, rfl, hp1, hb1⟩
  have HB1 := Lib.hid hb1
  have HP1 := Lib.hid hp1
  clear hp1 hb1
  have hyxI : ¬ x < y := by omega
  have hxlI : ¬ len < x := by omega
  have hxc : x ≤ cap := by omega
  have hyc : y ≤ cap := by omega
  have hxeI : ((x : Int) == (len : Int)) = true := by rw [hxe]; simp
  have hc0 := cutA_zero a cap
  have huvI : ¬ v < u := by omega
  have hvlI : ¬ len < v := by omega
  have hul : u ≤ len := by omega
  have hueI : ((u : Int) == 0) = true := by rw [hue]; rfl
  obtain ⟨du, hdu⟩ : ∃ d, d = cutA a cap u := ⟨_, rfl⟩
  obtain ⟨dv, hdv⟩ : ∃ d, d = cutA a cap v := ⟨_, rfl⟩
  rw [← hdu] at HMU
  rw [← hdv] at HMV
  have hdu2 : (if cap = u then a else Option.map (fun x => x.add u) a) = du := hdu.symm
  have hdv2 : (if cap = v then a else Option.map (fun x => x.add v) a) = dv := hdv.symm
  clear hdu hdv
  clear hxe
  clear hue
  go_wp2_with fail
  refine (HM.out b w1 HB1.out HP1.out).mono ?_
  rintro x w2 ⟨rfl, hb2⟩
  have HB2 := Lib.hid (below_thn HB1.out (Nat.le_refl _) hb2)
  have HP2 := Lib.hid (HP1.out.next hb2)
  clear hb2
  go_wp2_with fail
  refine (HX.out b w2 HB2.out HP2.out).mono ?_
  rintro x w3 ⟨rfl, hb3⟩
  have HB3 := Lib.hid (below_thn HB2.out (Nat.le_refl _) hb3)
  have HP3 := Lib.hid (HP2.out.next hb3)
  clear hb3
  go_wp2_with fail
  refine (HY.out b w3 HB3.out HP3.out).mono ?_
  rintro x w4 ⟨rfl, hb4⟩
  have HB4 := Lib.hid (below_thn HB3.out (Nat.le_refl _) hb4)
  have HP4 := Lib.hid (HP3.out.next hb4)
  clear hb4
  go_wp2_with fail
  refine (HU.out b w4 HB4.out HP4.out).mono ?_
  rintro x w5 ⟨rfl, hb5⟩
  have HB5 := Lib.hid (below_thn HB4.out (Nat.le_refl _) hb5)
  have HP5 := Lib.hid (HP4.out.next hb5)
  clear hb5
  go_wp2_with fail
  refine (HV.out b w5 HB5.out HP5.out).mono ?_
  rintro x w6 ⟨rfl, hb6⟩
  have HB6 := Lib.hid (below_thn HB5.out (Nat.le_refl _) hb6)
  have HP6 := Lib.hid (HP5.out.next hb6)
  clear hb6
  go_wp2_with fail
  refine (HMX.out b w6 HB6.out HP6.out).mono ?_
  rintro x w7 ⟨rfl, hb7⟩
  have HB7 := Lib.hid (below_thn HB6.out (Nat.le_refl _) hb7)
  have HP7 := Lib.hid (HP6.out.next hb7)
  clear hb7
  go_wp2_with fail
  refine (HMY.out b w7 HB7.out HP7.out).mono ?_
  rintro x w8 ⟨rfl, hb8⟩
  have HB8 := Lib.hid (below_thn HB7.out (Nat.le_refl _) hb8)
  have HP8 := Lib.hid (HP7.out.next hb8)
  clear hb8
  go_wp2_with fail
  refine (HMU.out b w8 HB8.out HP8.out).mono ?_
  rintro x w9 ⟨rfl, hb9⟩
  have HB9 := Lib.hid (below_thn HB8.out (Nat.le_refl _) hb9)
  have HP9 := Lib.hid (HP8.out.next hb9)
  clear hb9
  go_wp2_with fail
  refine (HMV.out b w9 HB9.out HP9.out).mono ?_
  rintro x w10 ⟨rfl, hb10⟩
  have HB10 := Lib.hid (below_thn HB9.out (Nat.le_refl _) hb10)
  have HP10 := Lib.hid (HP9.out.next hb10)
  clear hb10
  go_wp2_with fail
  refine (HA.out _ HB10.out).mono ?_
  rintro x w11 ⟨rfl, hb11⟩
  have HB11 := Lib.hid (below_thn HB10.out (Nat.le_refl _) hb11)
  clear hb11
  go_wp2
  go_ret
  exact ⟨rfl, HB11.out⟩
set_option maxRecDepth 100000 in
set_option maxHeartbeats 4000000 in
theorem gwh_ff (w : World) (v0 v1 : Value) (a : Option Addr) (len cap : Nat) (ps : List Pc)
    (HF : ∀ X, Calls Tryd.prog 12 #[v1] X fun e w' => e = .returned (.slice a len cap) ∧ w' = X)
    (HR : Calls Tryd.prog 13 #[v0] w fun x w' => ∃ b, x = .returned (.pointer (some ⟨b, 0, none⟩)) ∧ PatAt w.heap.size b ps w' ∧ Below w.heap.size w w')
    (HA : Hid (∀ X, Below w.heap.size w X → Calls Tryd.prog 16 #[] X fun x w' => x = .returned (.bool true) ∧ Below X.heap.size X w'))
    (HM : Hid (∀ (b : Nat) (X : World), Below w.heap.size w X → PatAt w.heap.size b ps X → Calls Tryd.prog 15 #[.pointer (some ⟨b, 0, none⟩), .slice a len cap] X fun e w' => e = .returned (.bool false) ∧ Below X.heap.size X w'))
    (HX : Hid (∀ (b : Nat) (X : World), Below w.heap.size w X → PatAt w.heap.size b ps X → Calls Tryd.prog 17 #[.pointer (some ⟨b, 0, none⟩), .slice a len cap, .bool true] X fun e w' => e = .returned (.tuple #[.int .i64 0, .bool false]) ∧ Below X.heap.size X w'))
    (HY : Hid (∀ (b : Nat) (X : World), Below w.heap.size w X → PatAt w.heap.size b ps X → Calls Tryd.prog 17 #[.pointer (some ⟨b, 0, none⟩), .slice a len cap, .bool false] X fun e w' => e = .returned (.tuple #[.int .i64 0, .bool false]) ∧ Below X.heap.size X w'))
    (HU : Hid (∀ (b : Nat) (X : World), Below w.heap.size w X → PatAt w.heap.size b ps X → Calls Tryd.prog 19 #[.pointer (some ⟨b, 0, none⟩), .slice a len cap, .bool true] X fun e w' => e = .returned (.tuple #[.int .i64 0, .bool false]) ∧ Below X.heap.size X w'))
    (HV : Hid (∀ (b : Nat) (X : World), Below w.heap.size w X → PatAt w.heap.size b ps X → Calls Tryd.prog 19 #[.pointer (some ⟨b, 0, none⟩), .slice a len cap, .bool false] X fun e w' => e = .returned (.tuple #[.int .i64 0, .bool false]) ∧ Below X.heap.size X w')) :
    Calls Tryd.prog 7 #[v0, v1] w fun x w' => x = .returned (.bool true) ∧ Below w.heap.size w w' := by
  have HFH := Lib.hid HF
  have HRH := Lib.hid HR
  clear HF HR
  go_enter Tryd.func7, Tryd.ntmps7
  go_wp2_with fail
  refine (HFH.out _).mono ?_
  rintro x w0 ⟨rfl, rfl⟩
  go_wp2_with fail
  refine HRH.out.mono ?_
  rintro x w1 ⟨b, rfl, hp1, hb1⟩
  have HB1 := Lib.hid hb1
  have HP1 := Lib.hid hp1
  clear hp1 hb1
  go_wp2_with fail
  refine (HM.out b w1 HB1.out HP1.out).mono ?_
  rintro x w2 ⟨rfl, hb2⟩
  have HB2 := Lib.hid (below_thn HB1.out (Nat.le_refl _) hb2)
  have HP2 := Lib.hid (HP1.out.next hb2)
  clear hb2
  go_wp2_with fail
  refine (HX.out b w2 HB2.out HP2.out).mono ?_
  rintro x w3 ⟨rfl, hb3⟩
  have HB3 := Lib.hid (below_thn HB2.out (Nat.le_refl _) hb3)
  have HP3 := Lib.hid (HP2.out.next hb3)
  clear hb3
  go_wp2_with fail
  refine (HY.out b w3 HB3.out HP3.out).mono ?_
  rintro x w4 ⟨rfl, hb4⟩
  have HB4 := Lib.hid (below_thn HB3.out (Nat.le_refl _) hb4)
  have HP4 := Lib.hid (HP3.out.next hb4)
  clear hb4
  go_wp2_with fail
  refine (HU.out b w4 HB4.out HP4.out).mono ?_
  rintro x w5 ⟨rfl, hb5⟩
  have HB5 := Lib.hid (below_thn HB4.out (Nat.le_refl _) hb5)
  have HP5 := Lib.hid (HP4.out.next hb5)
  clear hb5
  go_wp2_with fail
  refine (HV.out b w5 HB5.out HP5.out).mono ?_
  rintro x w6 ⟨rfl, hb6⟩
  have HB6 := Lib.hid (below_thn HB5.out (Nat.le_refl _) hb6)
  have HP6 := Lib.hid (HP5.out.next hb6)
  clear hb6
  go_wp2_with fail
  refine (HA.out _ HB6.out).mono ?_
  rintro x w7 ⟨rfl, hb7⟩
  have HB7 := Lib.hid (below_thn HB6.out (Nat.le_refl _) hb7)
  clear hb7
  go_wp2
  go_ret
  exact ⟨rfl, HB7.out⟩
set_option maxRecDepth 100000 in
set_option maxHeartbeats 4000000 in
theorem gwh_tf (w : World) (v0 v1 : Value) (a : Option Addr) (len cap : Nat) (ps : List Pc) (hlc : len ≤ cap) (x y : Nat) (hyx : y ≤ x) (hxl : x ≤ len) (hxe : ¬ x = len)
    (HF : ∀ X, Calls Tryd.prog 12 #[v1] X fun e w' => e = .returned (.slice a len cap) ∧ w' = X)
    (HR : Calls Tryd.prog 13 #[v0] w fun x w' => ∃ b, x = .returned (.pointer (some ⟨b, 0, none⟩)) ∧ PatAt w.heap.size b ps w' ∧ Below w.heap.size w w')
    (HA : Hid (∀ X, Below w.heap.size w X → Calls Tryd.prog 16 #[] X fun x w' => x = .returned (.bool true) ∧ Below X.heap.size X w'))
    (HM : Hid (∀ (b : Nat) (X : World), Below w.heap.size w X → PatAt w.heap.size b ps X → Calls Tryd.prog 15 #[.pointer (some ⟨b, 0, none⟩), .slice a len cap] X fun e w' => e = .returned (.bool false) ∧ Below X.heap.size X w'))
    (HX : Hid (∀ (b : Nat) (X : World), Below w.heap.size w X → PatAt w.heap.size b ps X → Calls Tryd.prog 17 #[.pointer (some ⟨b, 0, none⟩), .slice a len cap, .bool true] X fun e w' => e = .returned (.tuple #[.int .i64 (x : Nat), .bool true]) ∧ Below X.heap.size X w'))
    (HY : Hid (∀ (b : Nat) (X : World), Below w.heap.size w X → PatAt w.heap.size b ps X → Calls Tryd.prog 17 #[.pointer (some ⟨b, 0, none⟩), .slice a len cap, .bool false] X fun e w' => e = .returned (.tuple #[.int .i64 (y : Nat), .bool true]) ∧ Below X.heap.size X w'))
    (HU : Hid (∀ (b : Nat) (X : World), Below w.heap.size w X → PatAt w.heap.size b ps X → Calls Tryd.prog 19 #[.pointer (some ⟨b, 0, none⟩), .slice a len cap, .bool true] X fun e w' => e = .returned (.tuple #[.int .i64 0, .bool false]) ∧ Below X.heap.size X w'))
    (HV : Hid (∀ (b : Nat) (X : World), Below w.heap.size w X → PatAt w.heap.size b ps X → Calls Tryd.prog 19 #[.pointer (some ⟨b, 0, none⟩), .slice a len cap, .bool false] X fun e w' => e = .returned (.tuple #[.int .i64 0, .bool false]) ∧ Below X.heap.size X w'))
    (HMX : Hid (∀ (b : Nat) (X : World), Below w.heap.size w X → PatAt w.heap.size b ps X → Calls Tryd.prog 15 #[.pointer (some ⟨b, 0, none⟩), .slice a x cap] X fun e w' => e = .returned (.bool true) ∧ Below X.heap.size X w'))
    (HMY : Hid (∀ (b : Nat) (X : World), Below w.heap.size w X → PatAt w.heap.size b ps X → Calls Tryd.prog 15 #[.pointer (some ⟨b, 0, none⟩), .slice a y cap] X fun e w' => e = .returned (.bool true) ∧ Below X.heap.size X w')) :
    Calls Tryd.prog 7 #[v0, v1] w fun x w' => x = .returned (.bool true) ∧ Below w.heap.size w w' := by
  have HFH := Lib.hid HF
  have HRH := Lib.hid HR
  clear HF HR
  go_enter Tryd.func7, Tryd.ntmps7
  go_wp2_with fail
  refine (HFH.out _).mono ?_
  rintro x w0 ⟨rfl, rfl⟩
  go_wp2_with fail
  refine HRH.out.mono ?_
  rintro x w1 ⟨b, rfl, hp1, hb1⟩
  have HB1 := Lib.hid hb1
  have HP1 := Lib.hid hp1
  clear hp1 hb1
  have hyxI : ¬ x < y := by omega
  have hxlI : ¬ len < x := by omega
  have hxc : x ≤ cap := by omega
  have hyc : y ≤ cap := by omega
  have hxeI : ((x : Int) == (len : Int)) = false := by simp; omega
  have hc0 := cutA_zero a cap
  clear hxe
  go_wp2_with fail
  refine (HM.out b w1 HB1.out HP1.out).mono ?_
  rintro x w2 ⟨rfl, hb2⟩
  have HB2 := Lib.hid (below_thn HB1.out (Nat.le_refl _) hb2)
  have HP2 := Lib.hid (HP1.out.next hb2)
  clear hb2
  go_wp2_with fail
  refine (HX.out b w2 HB2.out HP2.out).mono ?_
  rintro x w3 ⟨rfl, hb3⟩
  have HB3 := Lib.hid (below_thn HB2.out (Nat.le_refl _) hb3)
  have HP3 := Lib.hid (HP2.out.next hb3)
  clear hb3
  go_wp2_with fail
  refine (HY.out b w3 HB3.out HP3.out).mono ?_
  rintro x w4 ⟨rfl, hb4⟩
  have HB4 := Lib.hid (below_thn HB3.out (Nat.le_refl _) hb4)
  have HP4 := Lib.hid (HP3.out.next hb4)
  clear hb4
  go_wp2_with fail
  refine (HU.out b w4 HB4.out HP4.out).mono ?_
  rintro x w5 ⟨rfl, hb5⟩
  have HB5 := Lib.hid (below_thn HB4.out (Nat.le_refl _) hb5)
  have HP5 := Lib.hid (HP4.out.next hb5)
  clear hb5
  go_wp2_with fail
  refine (HV.out b w5 HB5.out HP5.out).mono ?_
  rintro x w6 ⟨rfl, hb6⟩
  have HB6 := Lib.hid (below_thn HB5.out (Nat.le_refl _) hb6)
  have HP6 := Lib.hid (HP5.out.next hb6)
  clear hb6
  go_wp2_with fail
  refine (HMX.out b w6 HB6.out HP6.out).mono ?_
  rintro x w7 ⟨rfl, hb7⟩
  have HB7 := Lib.hid (below_thn HB6.out (Nat.le_refl _) hb7)
  have HP7 := Lib.hid (HP6.out.next hb7)
  clear hb7
  go_wp2_with fail
  refine (HMY.out b w7 HB7.out HP7.out).mono ?_
  rintro x w8 ⟨rfl, hb8⟩
  have HB8 := Lib.hid (below_thn HB7.out (Nat.le_refl _) hb8)
  have HP8 := Lib.hid (HP7.out.next hb8)
  clear hb8
  go_wp2_with fail
  refine (HA.out _ HB8.out).mono ?_
  rintro x w9 ⟨rfl, hb9⟩
  have HB9 := Lib.hid (below_thn HB8.out (Nat.le_refl _) hb9)
  clear hb9
  go_wp2
  go_ret
  exact ⟨rfl, HB9.out⟩
set_option maxRecDepth 100000 in
set_option maxHeartbeats 4000000 in
theorem gwh_ft (w : World) (v0 v1 : Value) (a : Option Addr) (len cap : Nat) (ps : List Pc) (u v : Nat) (huv : u ≤ v) (hvl : v ≤ len) (hue : ¬ u = 0)
    (HF : ∀ X, Calls Tryd.prog 12 #[v1] X fun e w' => e = .returned (.slice a len cap) ∧ w' = X)
    (HR : Calls Tryd.prog 13 #[v0] w fun x w' => ∃ b, x = .returned (.pointer (some ⟨b, 0, none⟩)) ∧ PatAt w.heap.size b ps w' ∧ Below w.heap.size w w')
    (HA : Hid (∀ X, Below w.heap.size w X → Calls Tryd.prog 16 #[] X fun x w' => x = .returned (.bool true) ∧ Below X.heap.size X w'))
    (HM : Hid (∀ (b : Nat) (X : World), Below w.heap.size w X → PatAt w.heap.size b ps X → Calls Tryd.prog 15 #[.pointer (some ⟨b, 0, none⟩), .slice a len cap] X fun e w' => e = .returned (.bool false) ∧ Below X.heap.size X w'))
    (HX : Hid (∀ (b : Nat) (X : World), Below w.heap.size w X → PatAt w.heap.size b ps X → Calls Tryd.prog 17 #[.pointer (some ⟨b, 0, none⟩), .slice a len cap, .bool true] X fun e w' => e = .returned (.tuple #[.int .i64 0, .bool false]) ∧ Below X.heap.size X w'))
    (HY : Hid (∀ (b : Nat) (X : World), Below w.heap.size w X → PatAt w.heap.size b ps X → Calls Tryd.prog 17 #[.pointer (some ⟨b, 0, none⟩), .slice a len cap, .bool false] X fun e w' => e = .returned (.tuple #[.int .i64 0, .bool false]) ∧ Below X.heap.size X w'))
    (HU : Hid (∀ (b : Nat) (X : World), Below w.heap.size w X → PatAt w.heap.size b ps X → Calls Tryd.prog 19 #[.pointer (some ⟨b, 0, none⟩), .slice a len cap, .bool true] X fun e w' => e = .returned (.tuple #[.int .i64 (u : Nat), .bool true]) ∧ Below X.heap.size X w'))
    (HV : Hid (∀ (b : Nat) (X : World), Below w.heap.size w X → PatAt w.heap.size b ps X → Calls Tryd.prog 19 #[.pointer (some ⟨b, 0, none⟩), .slice a len cap, .bool false] X fun e w' => e = .returned (.tuple #[.int .i64 (v : Nat), .bool true]) ∧ Below X.heap.size X w'))
    (HMU : Hid (∀ (b : Nat) (X : World), Below w.heap.size w X → PatAt w.heap.size b ps X → Calls Tryd.prog 15 #[.pointer (some ⟨b, 0, none⟩), .slice (cutA a cap u) (len - u) (cap - u)] X fun e w' => e = .returned (.bool true) ∧ Below X.heap.size X w'))
    (HMV : Hid (∀ (b : Nat) (X : World), Below w.heap.size w X → PatAt w.heap.size b ps X → Calls Tryd.prog 15 #[.pointer (some ⟨b, 0, none⟩), .slice (cutA a cap v) (len - v) (cap - v)] X fun e w' => e = .returned (.bool true) ∧ Below X.heap.size X w')) :
    Calls Tryd.prog 7 #[v0, v1] w fun x w' => x = .returned (.bool true) ∧ Below w.heap.size w w' := by
  have HFH := Lib.hid HF
  have HRH := Lib.hid HR
  clear HF HR
  go_enter Tryd.func7, Tryd.ntmps7
  go_wp2_with fail
  refine (HFH.out _).mono ?_
  rintro x w0 ⟨rfl, rfl⟩
  go_wp2_with fail
  refine HRH.out.mono ?_
  rintro x w1 ⟨b, rfl, hp1, hb1⟩
  have HB1 := Lib.hid hb1
  have HP1 := Lib.hid hp1
  clear hp1 hb1
  have huvI : ¬ v < u := by omega
  have hvlI : ¬ len < v := by omega
  have hul : u ≤ len := by omega
  have hueI : ((u : Int) == 0) = false := by simp; omega
  obtain ⟨du, hdu⟩ : ∃ d, d = cutA a cap u := ⟨_, rfl⟩
  obtain ⟨dv, hdv⟩ : ∃ d, d = cutA a cap v := ⟨_, rfl⟩
  rw [← hdu] at HMU
  rw [← hdv] at HMV
  have hdu2 : (if cap = u then a else Option.map (fun x => x.add u) a) = du := hdu.symm
  have hdv2 : (if cap = v then a else Option.map (fun x => x.add v) a) = dv := hdv.symm
  clear hdu hdv
  clear hue
  go_wp2_with fail
  refine (HM.out b w1 HB1.out HP1.out).mono ?_
  rintro x w2 ⟨rfl, hb2⟩
  have HB2 := Lib.hid (below_thn HB1.out (Nat.le_refl _) hb2)
  have HP2 := Lib.hid (HP1.out.next hb2)
  clear hb2
  go_wp2_with fail
  refine (HX.out b w2 HB2.out HP2.out).mono ?_
  rintro x w3 ⟨rfl, hb3⟩
  have HB3 := Lib.hid (below_thn HB2.out (Nat.le_refl _) hb3)
  have HP3 := Lib.hid (HP2.out.next hb3)
  clear hb3
  go_wp2_with fail
  refine (HY.out b w3 HB3.out HP3.out).mono ?_
  rintro x w4 ⟨rfl, hb4⟩
  have HB4 := Lib.hid (below_thn HB3.out (Nat.le_refl _) hb4)
  have HP4 := Lib.hid (HP3.out.next hb4)
  clear hb4
  go_wp2_with fail
  refine (HU.out b w4 HB4.out HP4.out).mono ?_
  rintro x w5 ⟨rfl, hb5⟩
  have HB5 := Lib.hid (below_thn HB4.out (Nat.le_refl _) hb5)
  have HP5 := Lib.hid (HP4.out.next hb5)
  clear hb5
  go_wp2_with fail
  refine (HV.out b w5 HB5.out HP5.out).mono ?_
  rintro x w6 ⟨rfl, hb6⟩
  have HB6 := Lib.hid (below_thn HB5.out (Nat.le_refl _) hb6)
  have HP6 := Lib.hid (HP5.out.next hb6)
  clear hb6
  go_wp2_with fail
  refine (HMU.out b w6 HB6.out HP6.out).mono ?_
  rintro x w7 ⟨rfl, hb7⟩
  have HB7 := Lib.hid (below_thn HB6.out (Nat.le_refl _) hb7)
  have HP7 := Lib.hid (HP6.out.next hb7)
  clear hb7
  go_wp2_with fail
  refine (HMV.out b w7 HB7.out HP7.out).mono ?_
  rintro x w8 ⟨rfl, hb8⟩
  have HB8 := Lib.hid (below_thn HB7.out (Nat.le_refl _) hb8)
  have HP8 := Lib.hid (HP7.out.next hb8)
  clear hb8
  go_wp2_with fail
  refine (HA.out _ HB8.out).mono ?_
  rintro x w9 ⟨rfl, hb9⟩
  have HB9 := Lib.hid (below_thn HB8.out (Nat.le_refl _) hb9)
  clear hb9
  go_wp2
  go_ret
  exact ⟨rfl, HB9.out⟩
set_option maxRecDepth 100000 in
set_option maxHeartbeats 4000000 in
theorem gwh_tt (w : World) (v0 v1 : Value) (a : Option Addr) (len cap : Nat) (ps : List Pc) (hlc : len ≤ cap) (x y : Nat) (hyx : y ≤ x) (hxl : x ≤ len) (hxe : ¬ x = len) (u v : Nat) (huv : u ≤ v) (hvl : v ≤ len) (hue : ¬ u = 0)
    (HF : ∀ X, Calls Tryd.prog 12 #[v1] X fun e w' => e = .returned (.slice a len cap) ∧ w' = X)
    (HR : Calls Tryd.prog 13 #[v0] w fun x w' => ∃ b, x = .returned (.pointer (some ⟨b, 0, none⟩)) ∧ PatAt w.heap.size b ps w' ∧ Below w.heap.size w w')
    (HA : Hid (∀ X, Below w.heap.size w X → Calls Tryd.prog 16 #[] X fun x w' => x = .returned (.bool true) ∧ Below X.heap.size X w'))
    (HM : Hid (∀ (b : Nat) (X : World), Below w.heap.size w X → PatAt w.heap.size b ps X → Calls Tryd.prog 15 #[.pointer (some ⟨b, 0, none⟩), .slice a len cap] X fun e w' => e = .returned (.bool false) ∧ Below X.heap.size X w'))
    (HX : Hid (∀ (b : Nat) (X : World), Below w.heap.size w X → PatAt w.heap.size b ps X → Calls Tryd.prog 17 #[.pointer (some ⟨b, 0, none⟩), .slice a len cap, .bool true] X fun e w' => e = .returned (.tuple #[.int .i64 (x : Nat), .bool true]) ∧ Below X.heap.size X w'))
    (HY : Hid (∀ (b : Nat) (X : World), Below w.heap.size w X → PatAt w.heap.size b ps X → Calls Tryd.prog 17 #[.pointer (some ⟨b, 0, none⟩), .slice a len cap, .bool false] X fun e w' => e = .returned (.tuple #[.int .i64 (y : Nat), .bool true]) ∧ Below X.heap.size X w'))
    (HU : Hid (∀ (b : Nat) (X : World), Below w.heap.size w X → PatAt w.heap.size b ps X → Calls Tryd.prog 19 #[.pointer (some ⟨b, 0, none⟩), .slice a len cap, .bool true] X fun e w' => e = .returned (.tuple #[.int .i64 (u : Nat), .bool true]) ∧ Below X.heap.size X w'))
    (HV : Hid (∀ (b : Nat) (X : World), Below w.heap.size w X → PatAt w.heap.size b ps X → Calls Tryd.prog 19 #[.pointer (some ⟨b, 0, none⟩), .slice a len cap, .bool false] X fun e w' => e = .returned (.tuple #[.int .i64 (v : Nat), .bool true]) ∧ Below X.heap.size X w'))
    (HMX : Hid (∀ (b : Nat) (X : World), Below w.heap.size w X → PatAt w.heap.size b ps X → Calls Tryd.prog 15 #[.pointer (some ⟨b, 0, none⟩), .slice a x cap] X fun e w' => e = .returned (.bool true) ∧ Below X.heap.size X w'))
    (HMY : Hid (∀ (b : Nat) (X : World), Below w.heap.size w X → PatAt w.heap.size b ps X → Calls Tryd.prog 15 #[.pointer (some ⟨b, 0, none⟩), .slice a y cap] X fun e w' => e = .returned (.bool true) ∧ Below X.heap.size X w'))
    (HMU : Hid (∀ (b : Nat) (X : World), Below w.heap.size w X → PatAt w.heap.size b ps X → Calls Tryd.prog 15 #[.pointer (some ⟨b, 0, none⟩), .slice (cutA a cap u) (len - u) (cap - u)] X fun e w' => e = .returned (.bool true) ∧ Below X.heap.size X w'))
    (HMV : Hid (∀ (b : Nat) (X : World), Below w.heap.size w X → PatAt w.heap.size b ps X → Calls Tryd.prog 15 #[.pointer (some ⟨b, 0, none⟩), .slice (cutA a cap v) (len - v) (cap - v)] X fun e w' => e = .returned (.bool true) ∧ Below X.heap.size X w')) :
    Calls Tryd.prog 7 #[v0, v1] w fun x w' => x = .returned (.bool true) ∧ Below w.heap.size w w' := by
  have HFH := Lib.hid HF
  have HRH := Lib.hid HR
  clear HF HR
  go_enter Tryd.func7, Tryd.ntmps7
  go_wp2_with fail
  refine (HFH.out _).mono ?_
  rintro x w0 ⟨rfl, rfl⟩
  go_wp2_with fail
  refine HRH.out.mono ?_
  rintro x w1 ⟨b, rfl, hp1, hb1⟩
  have HB1 := Lib.hid hb1
  have HP1 := Lib.hid hp1
  clear hp1 hb1
  have hyxI : ¬ x < y := by omega
  have hxlI : ¬ len < x := by omega
  have hxc : x ≤ cap := by omega
  have hyc : y ≤ cap := by omega
  have hxeI : ((x : Int) == (len : Int)) = false := by simp; omega
  have hc0 := cutA_zero a cap
  have huvI : ¬ v < u := by omega
  have hvlI : ¬ len < v := by omega
  have hul : u ≤ len := by omega
  have hueI : ((u : Int) == 0) = false := by simp; omega
  obtain ⟨du, hdu⟩ : ∃ d, d = cutA a cap u := ⟨_, rfl⟩
  obtain ⟨dv, hdv⟩ : ∃ d, d = cutA a cap v := ⟨_, rfl⟩
  rw [← hdu] at HMU
  rw [← hdv] at HMV
  have hdu2 : (if cap = u then a else Option.map (fun x => x.add u) a) = du := hdu.symm
  have hdv2 : (if cap = v then a else Option.map (fun x => x.add v) a) = dv := hdv.symm
  clear hdu hdv
  clear hxe
  clear hue
  go_wp2_with fail
  refine (HM.out b w1 HB1.out HP1.out).mono ?_
  rintro x w2 ⟨rfl, hb2⟩
  have HB2 := Lib.hid (below_thn HB1.out (Nat.le_refl _) hb2)
  have HP2 := Lib.hid (HP1.out.next hb2)
  clear hb2
  go_wp2_with fail
  refine (HX.out b w2 HB2.out HP2.out).mono ?_
  rintro x w3 ⟨rfl, hb3⟩
  have HB3 := Lib.hid (below_thn HB2.out (Nat.le_refl _) hb3)
  have HP3 := Lib.hid (HP2.out.next hb3)
  clear hb3
  go_wp2_with fail
  refine (HY.out b w3 HB3.out HP3.out).mono ?_
  rintro x w4 ⟨rfl, hb4⟩
  have HB4 := Lib.hid (below_thn HB3.out (Nat.le_refl _) hb4)
  have HP4 := Lib.hid (HP3.out.next hb4)
  clear hb4
  go_wp2_with fail
  refine (HU.out b w4 HB4.out HP4.out).mono ?_
  rintro x w5 ⟨rfl, hb5⟩
  have HB5 := Lib.hid (below_thn HB4.out (Nat.le_refl _) hb5)
  have HP5 := Lib.hid (HP4.out.next hb5)
  clear hb5
  go_wp2_with fail
  refine (HV.out b w5 HB5.out HP5.out).mono ?_
  rintro x w6 ⟨rfl, hb6⟩
  have HB6 := Lib.hid (below_thn HB5.out (Nat.le_refl _) hb6)
  have HP6 := Lib.hid (HP5.out.next hb6)
  clear hb6
  go_wp2_with fail
  refine (HMX.out b w6 HB6.out HP6.out).mono ?_
  rintro x w7 ⟨rfl, hb7⟩
  have HB7 := Lib.hid (below_thn HB6.out (Nat.le_refl _) hb7)
  have HP7 := Lib.hid (HP6.out.next hb7)
  clear hb7
  go_wp2_with fail
  refine (HMY.out b w7 HB7.out HP7.out).mono ?_
  rintro x w8 ⟨rfl, hb8⟩
  have HB8 := Lib.hid (below_thn HB7.out (Nat.le_refl _) hb8)
  have HP8 := Lib.hid (HP7.out.next hb8)
  clear hb8
  go_wp2_with fail
  refine (HMU.out b w8 HB8.out HP8.out).mono ?_
  rintro x w9 ⟨rfl, hb9⟩
  have HB9 := Lib.hid (below_thn HB8.out (Nat.le_refl _) hb9)
  have HP9 := Lib.hid (HP8.out.next hb9)
  clear hb9
  go_wp2_with fail
  refine (HMV.out b w9 HB9.out HP9.out).mono ?_
  rintro x w10 ⟨rfl, hb10⟩
  have HB10 := Lib.hid (below_thn HB9.out (Nat.le_refl _) hb10)
  have HP10 := Lib.hid (HP9.out.next hb10)
  clear hb10
  go_wp2_with fail
  refine (HA.out _ HB10.out).mono ?_
  rintro x w11 ⟨rfl, hb11⟩
  have HB11 := Lib.hid (below_thn HB10.out (Nat.le_refl _) hb11)
  clear hb11
  go_wp2
  go_ret
  exact ⟨rfl, HB11.out⟩

set_option maxRecDepth 100000 in
theorem gwhole_any (cf : ByteArray → (Nat → Bool) × Bool) (hcf : ClassOk cf) (e : Nat → Addr) (w : World) (v0 v1 : Value) (l s0 : List Int) (h0 : Sl w v0 l) (h1 : Sl w v1 s0) (he : Es w w.heap.size e) (hT : TZ w) :
    Calls Tryd.prog 7 #[v0, v1] w fun x w' => x = .returned (.bool true) ∧ Below w.heap.size w w' := by
  have HA : Hid (∀ X, Below w.heap.size w X → Calls Tryd.prog 16 #[] X fun x w' => x = .returned (.bool true) ∧ Below X.heap.size X w') := Lib.hid fun X hX => awake7_any cf hcf e X ⟨(he.below hX).var, Nat.lt_of_lt_of_le he.low hX.size, Nat.le_refl _⟩ (hT.below hX)
  obtain ⟨v', hs, HF, _⟩ := few_sl h1
  obtain ⟨a, cap, rfl⟩ := hs.lit
  have hcap := hs.cap
  have hl60 : (s0.take 60).length ≤ 60 := by simp; omega
  generalize s0.take 60 = s at *
  by_cases hp : l.length ≤ 256
  · have HR := read_ok cf hcf e v0 l w he hT h0 hp
    have hpl : (glP cf l).length ≤ 256 := Nat.le_trans (glP_len cf l) hp
    generalize glP cf l = ps at *
    obtain ⟨okis, onat, yx, uv, xl, vl, mx, my, mu, mv, m1, m2⟩ := whole_all ps s
    have M : ∀ (t : List Int) (v : Value) (r : Bool), Sl w v t → t.length ≤ 60 → mtc ps t = r → Hid (∀ (b : Nat) (X : World), Below w.heap.size w X → PatAt w.heap.size b ps X → Calls Tryd.prog 15 #[.pointer (some ⟨b, 0, none⟩), v] X fun e w' => e = .returned (.bool r) ∧ Below X.heap.size X w') := fun t v r hsl hlt hm => Lib.hid fun b X hb hpp => by
      have := match_any t ps v w.heap.size b X (hT.below hb) (hsl.below hb) (by omega) hpp (by omega)
      rw [hm] at this
      exact this
    have P : ∀ (g : Bool) (k : Nat) (r : Bool), pfx g ps s = (k, r) → Hid (∀ (b : Nat) (X : World), Below w.heap.size w X → PatAt w.heap.size b ps X → Calls Tryd.prog 17 #[.pointer (some ⟨b, 0, none⟩), .slice a s.length cap, .bool g] X fun e w' => e = .returned (.tuple #[.int .i64 (k : Nat), .bool r]) ∧ Below X.heap.size X w') := fun g k r hm => Lib.hid fun b X hb hpp => by
      have := prefix_any g s ps (.slice a s.length cap) w.heap.size b X (hT.below hb) (hs.below hb) (by omega) hpp (by omega)
      rw [hm] at this
      exact this
    have S : ∀ (g : Bool) (k : Nat) (r : Bool), sfx g ps s = (k, r) → Hid (∀ (b : Nat) (X : World), Below w.heap.size w X → PatAt w.heap.size b ps X → Calls Tryd.prog 19 #[.pointer (some ⟨b, 0, none⟩), .slice a s.length cap, .bool g] X fun e w' => e = .returned (.tuple #[.int .i64 (k : Nat), .bool r]) ∧ Below X.heap.size X w') := fun g k r hm => Lib.hid fun b X hb hpp => by
      have := suffix_any g s ps (.slice a s.length cap) w.heap.size b X (hT.below hb) (hs.below hb) (by omega) hpp (by omega)
      rw [hm] at this
      exact this
    have take60 : ∀ k, (s.take k).length ≤ 60 := fun k => by simp; omega
    have drop60 : ∀ k, (s.drop k).length ≤ 60 := fun k => by simp; omega
    have nofst : ∀ {g : Bool}, (pfx g ps s).2 = false → pfx g ps s = (0, false) := fun {g} h => by
      rcases pfx_cases g ps s with ⟨k, _, _, h3, _⟩ | ⟨_, h3⟩
      · rw [h3] at h; cases h
      · exact h3
    have nosnd : ∀ {g : Bool}, (sfx g ps s).2 = false → sfx g ps s = (0, false) := fun {g} h => by
      rcases sfx_cases g ps s with ⟨k, _, _, h3, _⟩ | ⟨_, h3⟩
      · rw [h3] at h; cases h
      · exact h3
    have pr : ∀ (q : Nat × Bool) (b : Bool), q.2 = b → q = (q.1, b) := fun q b h => by rw [← h]
    cases ho : (pfx true ps s).2 with
    | true =>
      rw [ho] at okis m1 mx my
      have PX := P true _ _ (pr _ _ ho)
      have PY := P false _ _ (pr _ _ okis.symm)
      have MX := M _ _ _ (hs.upto _ xl) (take60 _) (mx rfl)
      have MY := M _ _ _ (hs.upto _ (Nat.le_trans yx xl)) (take60 _) (my rfl)
      cases hn : (sfx true ps s).2 with
      | true =>
        rw [hn] at onat m2 mu mv
        have SU := S true _ _ (pr _ _ hn)
        have SV := S false _ _ (pr _ _ onat.symm)
        have MU := M _ _ _ (hs.from _ (Nat.le_trans uv vl)) (drop60 _) (mu rfl)
        have MV := M _ _ _ (hs.from _ vl) (drop60 _) (mv rfl)
        rw [Bool.true_and] at m1 m2
        by_cases hx : (pfx true ps s).1 = s.length
        · rw [decide_eq_true hx] at m1
          rw [m1] at m2
          exact gwh_all w v0 v1 a s.length cap ps hcap _ _ yx xl hx _ _ uv vl (of_decide_eq_true m2.symm) HF HR HA (M _ _ _ hs hl60 m1) PX PY SU SV MX MY MU MV
        · rw [decide_eq_false hx] at m1
          rw [m1] at m2
          exact gwh_tt w v0 v1 a s.length cap ps hcap _ _ yx xl hx _ _ uv vl (of_decide_eq_false m2.symm) HF HR HA (M _ _ _ hs hl60 m1) PX PY SU SV MX MY MU MV
      | false =>
        rw [hn, Bool.false_and] at m2
        have SU := S true _ _ (nosnd hn)
        have SV := S false _ _ (nosnd (onat.symm.trans hn))
        rw [m2, Bool.true_and] at m1
        exact gwh_tf w v0 v1 a s.length cap ps hcap _ _ yx xl (of_decide_eq_false m1.symm) HF HR HA (M _ _ _ hs hl60 m2) PX PY SU SV MX MY
    | false =>
      rw [ho, Bool.false_and] at m1
      have PX := P true _ _ (nofst ho)
      have PY := P false _ _ (nofst (okis.symm.trans ho))
      cases hn : (sfx true ps s).2 with
      | true =>
        rw [hn] at onat m2 mu mv
        have SU := S true _ _ (pr _ _ hn)
        have SV := S false _ _ (pr _ _ onat.symm)
        have MU := M _ _ _ (hs.from _ (Nat.le_trans uv vl)) (drop60 _) (mu rfl)
        have MV := M _ _ _ (hs.from _ vl) (drop60 _) (mv rfl)
        rw [m1, Bool.true_and] at m2
        exact gwh_ft w v0 v1 a s.length cap ps _ _ uv vl (of_decide_eq_false m2.symm) HF HR HA (M _ _ _ hs hl60 m1) PX PY SU SV MU MV
      | false =>
        have SU := S true _ _ (nosnd hn)
        have SV := S false _ _ (nosnd (onat.symm.trans hn))
        exact gwh_ff w v0 v1 a s.length cap ps HF HR HA (M _ _ _ hs hl60 m1) PX PY SU SV
  · obtain ⟨a0, c0, rfl⟩ := h0.lit
    exact gwh_nil w _ v1 a s.length cap HF (read_long e a0 l.length c0 (by omega) w he) HA

set_option maxRecDepth 100000 in
theorem gmatchWhole_open {H : Type} {enc : TypeId × Value → H} {d0 d1 : DataW H} {p0 p1 : List MemPlace} {q : Prop} (W : World) (base : Nat) (v0 v1 : Value)
    (h0 : DataW.Trod enc Tryd.prog W 0 (fun _ => true) true 22 v0 d0 p0) (h1 : DataW.Trod enc Tryd.prog W 0 (fun _ => true) true 22 v1 d1 p1)
    (k0 : Value.okWide Tryd.prog W .any base 22 v0) (k1 : Value.okWide Tryd.prog W .any base 22 v1) (_ : q) (hL : laidMetH Tryd.prog Rows.gmatchWholeRow.laid W) :
    Calls Tryd.prog 7 #[v0, v1] W fun e W' => e = .returned (.bool true) ∧ Below W.heap.size W W' := by
  obtain ⟨e, he, hT⟩ := gm_of_laid (by kernel_rfl) (by kernel_rfl) hL
  obtain ⟨cf, hcf⟩ := classes_ok
  obtain ⟨l0, hs0, _⟩ := sl_of_w k0 h0
  obtain ⟨l1, hs1, _⟩ := sl_of_w k1 h1
  exact gwhole_any cf hcf e W v0 v1 l0 l1 hs0 hs1 he hT
end Go.Proofs.YtopnckfmdjhbjaaDoor
namespace Go.Proofs.YtopnckfmdjhbjaaDoor
open Go.ChangeShapes Go.WideShapes Go.ChangeAt Go.RowKit

theorem gmatchWhole_own : ownKnob Tryd.prog.godebug = none := by kernel_rfl
theorem gmatchWhole_laidOut : laidOutB Tryd.prog = true := by kernel_rfl

set_option maxRecDepth 100000 in
theorem gmatchWhole_lifted (os : Os) (started : os.Started) (H : Type) (enc : TypeId × Value → H) :
    ReturnsInHanded {} Tryd.checked os 7 .any (fun w args => (Rows.gmatchWholeSpec.pre enc Tryd.prog Tryd.f7 [] false w args ∧ laidMetH Tryd.prog Rows.gmatchWholeRow.laid w) ∧ sizedMet enc Tryd.prog Tryd.f7 (OpenSpec.ofChange Rows.gmatchWholeSpec) false w args)
      (Rows.gmatchWholeSpec.post enc Tryd.prog Tryd.f7 false true false false) := by
  refine returnsInHanded_of_change_and (C := Tryd.checked) (X := fun w _ => laidMetH Tryd.prog Rows.gmatchWholeRow.laid w) (fun _ _ _ hh h => h.of_heap hh) gmatchWhole_own started (by kernel_rfl) Tryd.func7
    (ChangeSpec.witness_shaped (enc := enc) (C := Tryd.checked) (os := os) (X := fun w _ => laidMetH Tryd.prog Rows.gmatchWholeRow.laid w) false (World.laidAll Tryd.prog os Rows.gmatchWholeRow.laid) #[.slice none 0 0, .slice none 0 0] 8 (World.laidAll_os _ _ _)
      (World.shaped_of_ZipB (by kernel_rfl) (by kernel_rfl)) (by kernel_rfl) (by kernel_rfl) (by kernel_rfl)
      (by rw [MakeChecks.laidMetH_plain _ _ _ (by kernel_rfl)]; exact laidMet_laidAll _ (by kernel_rfl) (by kernel_rfl))) ?_
  intro W base args ds gs before hval0 hW _ hsz0 hL _
  have hval : ∀ (j : Nat) t v, Tryd.f7.params[j]? = some t → args[j]? = some v → Value.okWide Tryd.prog W .any base t v := hval0
  have hsz : (DataW.weightsEach Tryd.prog (Tryd.f7.params.toList ++ Rows.gmatchWholeSpec.plain.varTypes Tryd.prog) (ds ++ gs)).all (· ≤ reachBytes) = true := hsz0
  clear hsz0
  have hW' := hW
  obtain ⟨p, q, hA0, hV, rfl, hfz, hnd⟩ := hW
  have hA : DataW.TrodAll enc Tryd.prog W 0 (fun _ => true) true Tryd.f7.params.toList args.toList ds p := hA0
  rw [Tryd.params7] at hA hval hsz
  obtain ⟨v0, v1, d0, d1, p0, p1, rfl, rfl, rfl, h0, h1⟩ := trodAll_two hA
  obtain ⟨rfl, rfl⟩ := trodVars_none hV
  clear hA0 hval0
  simp only [List.append_nil] at hW'
  have hlt : ∀ x ∈ p0 ++ (p1), x.block < W.heap.size := fun x hx => by first | simpa using hW'.lt x hx | simpa using hW'.lt x (by simpa using hx)
  refine (gmatchWhole_open W base v0 v1 h0 h1 (hval 0 22 v0 rfl rfl) (hval 1 22 v1 rfl rfl) hsz hL).mono fun e W' ⟨he, hb⟩ => ?_
  subst he
  have e1 : Rows.gmatchWholeSpec.fn H ([d0, d1] ++ []) = { results := [.lit (.bool true)], args := [d0, d1] } := by simp [Rows.gmatchWholeSpec]
  refine ⟨_, rfl, _, _, _, [], p0 ++ (p1), [], hW', ?_, ?_, ?_, hb.frame _, fun h => by cases h⟩
  · rw [e1]; exact trodAll_mk1 (shut_bool Tryd.underlying4 true)
  · rw [e1]; exact trodAll_mk2 (Below.trod gmatchWhole_laidOut (by kernel_rfl) (of_decide_eq_true (by kernel_rfl)) h0 hb (fun x hx => hlt x (by simp [hx]))) (Below.trod gmatchWhole_laidOut (by kernel_rfl) (of_decide_eq_true (by kernel_rfl)) h1 hb (fun x hx => hlt x (by simp [hx])))
  · rw [e1]; rfl

theorem gmatchWhole_said : Rows.GmatchWholeSaid :=
  OpenClaim.holds_of_wide 7 Tryd.f7 rfl rfl rfl rfl rfl rfl rfl ⟨rfl, rfl, rfl, rfl, rfl⟩ rfl rfl rfl rfl rfl (by kernel_rfl) Tryd.func7 (by kernel_rfl)
    (of_decide_eq_true (by kernel_rfl)) (by unfold Func.isWrapper; rw [if_neg (of_decide_eq_false (by kernel_rfl))]; exact ⟨rfl, rfl⟩)
    (fun os started H enc _ => gmatchWhole_lifted os started H enc)

theorem gmatchWhole_holds : Rows.GmatchWholeCardSaid :=
  Claim7.holds_tied_plain_at .later [] Rows.gmatchWholeCard.laidKinds true Rows.gmatchWholeCard.stood.harness Rows.gmatchWholeCard.stood.looks
    gmatchWhole_said (fun _ h => by cases h) (by kernel_rfl) (fun _ h => by cases h) gmatchWhole_row_tie rfl ⟨rfl, rfl⟩ (by kernel_rfl) rfl
    (fun f fn hf hfn => by
      obtain rfl : f = 7 := Option.some.inj ((show Tryd.prog.funcNamed "pidgin/pidginlaw7.GmatchWhole" = some 7 by kernel_rfl).symm.trans hf) |>.symm
      obtain rfl : fn = Tryd.f7 := (Option.some.inj (Tryd.func7.symm.trans hfn)).symm
      exact ⟨by kernel_rfl, fun j t ht => by
        rw [Tryd.params7] at ht
        have hm : t ∈ [22, 22] := by simpa using Array.mem_of_getElem? ht
        have hall : ([22, 22].all fun u => !Tryd.prog.wantsStandIn u) = true := by kernel_rfl
        exact (show Tryd.prog.wantsStandIn t = false by simpa using List.all_eq_true.1 hall t hm)⟩)
    (by kernel_rfl)
#print axioms gmatchWhole_holds
end Go.Proofs.YtopnckfmdjhbjaaDoor
