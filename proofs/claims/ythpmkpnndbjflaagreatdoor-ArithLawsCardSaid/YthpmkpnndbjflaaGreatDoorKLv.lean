/- KLv: several texts in one (kmerge.py). -/
import Derived.Test.YthpmkpnndbjflaaGreatDoorKLw
import Derived.Test.YthpmkpnndbjflaaGreatDoorKRk
import Derived.Test.YthpmkpnndbjflaaGreatDoorAcVk
import Derived.Test.YthpmkpnndbjflaaGreatDoorKNu
import Derived.RangeFuncFrom
import Derived.RangeFuncNested
import Derived.RangeFuncBound
import Derived.RangeFuncCalls
import Derived.RangeFuncLeaves
import Derived.Laws.IdiomRangeMap
import Derived.Shelf.Abstract
import Derived.Shelf.RegionOpen
import Derived.WalkKit
import Derived.OwnWalkIn
import Derived.TacticsInMore
import Derived.LoopNIn
import Derived.LoopIn
import Derived.BigQuiet
import Derived.Test.YthpmkpnndbjflaaGreatDoorAcHf
import Derived.Test.YthpmkpnndbjflaaGreatDoorAcLwT
import Derived.Test.YthpmkpnndbjflaaGreatDoorAcLa
/- The law's eval over a copy of the variables; two texts that are worth the same. -/
namespace Go.Proofs.YthpmkpnndbjflaaGreatDoor
open Go.RowKit Go.WideMaps Go.Maps

def rvN : Rv → Int
  | .ok x _ => x
  | _ => 0
def rvB : Rv → Bool
  | .ok _ _ => true
  | _ => false
def NVl (l : Vl) : ByteArray → Int × Nat := fun n => numOf (valV l n)
set_option maxRecDepth 100000 in
set_option maxHeartbeats 8000000 in
theorem eval4_any (vb N : Nat) (mo : Option Nat) (l : Vl) (s : ByteArray) (n : Nat) (t : Tr) (k : Tk) (sn : Nat → Addr) (w : World) (hp : parseP (bys s) n = some (.ok t k)) (hz : s.size ≤ 2000) (hv : VarsAt w vb mo N l) (hx : ∀ x ∈ l, x.2.size ≤ 9223372036854775807) (hsn : Er w sn) (hT : TP w) (hN : t.NoAsg) (rv : Rv) (hev : ev (NVl l) t [] = rv) (hno : rv ≠ .no) :
    Calls Tryz.prog 32 #[.string s, .pointer (some ⟨vb, 0, none⟩)] w fun e w' => e = .returned (.tuple #[.int .i64 (rvN rv), .bool (rvB rv)]) ∧ Below w.heap.size w w' := by
  obtain ⟨cap, W1, hconv, hrow, hbel⟩ := conv_sl w s (by omega)
  have HCP := Lib.hid (copy_any vb N mo l W1 (hv.below hbel))
  have HB1 := Lib.hid hbel
  have HEV : Hid (∀ cb mo' X, Below W1.heap.size W1 X → VarsAt X cb mo' N l → Calls Tryz.prog 20 #[.slice (some ⟨w.heap.size, 0, none⟩) s.size cap, .pointer (some ⟨cb, 0, none⟩)] X fun e w' => ValQ sn rv e w' ∧ Below X.heap.size X w') := Lib.hid (fun cb mo' X hX hV => by
    have hb0 : Below w.heap.size w X := hbel.trans (hX.mono hbel.size)
    exact eval_ok _ (bys s) n t k (some ⟨cb, 0, none⟩) X (valV l) (NVl l) sn hp (bys_byt s) (hrow.below hX) (hsn.below hb0) (hT.below hb0) (fun W hW => env_any cb N mo' l W (hV.below hW) hx ((hT.below hb0).below hW)) rv hev hno (Or.inr (fun x e h => ev_env (NVl l) t [] e x hN (hev.trans h))))
  clear hp hv hx hsn hT hN hev hrow hbel
  go_enter Tryz.func32, Tryz.ntmps32
  go_wp2_with fail
  refine HCP.out.mono ?_
  rintro e X2 ⟨⟨cb, mo', rfl, _, _, hV⟩, hb2⟩
  have HEC := Lib.hid (HEV.out cb mo' X2 hb2 hV)
  have HB2 := Lib.hid (HB1.out.trans (hb2.mono HB1.out.size))
  clear hb2 hV HEV HCP
  go_wp2_with fail
  refine HEC.out.mono ?_
  rintro e X3 ⟨hq, hb3⟩
  have HB3 := Lib.hid (HB2.out.trans (hb3.mono HB2.out.size))
  clear hb3 HEC
  cases rv with
  | ok x e' =>
    obtain rfl : e = .returned (.tuple #[.int .i64 x, .nilIface]) := hq
    go_wp2_with (go_quiet (fail))
    go_ret2
    exact ⟨rfl, below_drewN HB3.out _⟩
  | bad a p =>
    obtain ⟨pv, rfl, her⟩ := hq
    clear her
    go_wp2_with (go_quiet (fail))
    go_ret2
    exact ⟨rfl, below_drewN HB3.out _⟩
  | no => exact absurd rfl hno
/-- A text that is worth v. -/
def Worth (l : Vl) (s : ByteArray) (v : Int) : Prop := s.size ≤ 2000 ∧ ∃ n t k, parseP (bys s) n = some (.ok t k) ∧ t.NoAsg ∧ Wo (NVl l) t v
/-- A text whose worth is a fault. -/
def Fails (l : Vl) (s : ByteArray) : Prop := s.size ≤ 2000 ∧ ∃ n t k, parseP (bys s) n = some (.ok t k) ∧ t.NoAsg ∧ ∃ c p, ev (NVl l) t [] = .bad c p
theorem eval4_wo {vb N : Nat} {mo : Option Nat} {l : Vl} {s : ByteArray} {v : Int} {sn : Nat → Addr} {w : World} (h : Worth l s v) (hv : VarsAt w vb mo N l) (hx : ∀ x ∈ l, x.2.size ≤ 9223372036854775807) (hsn : Er w sn) (hT : TP w) :
    Calls Tryz.prog 32 #[.string s, .pointer (some ⟨vb, 0, none⟩)] w fun e w' => e = .returned (.tuple #[.int .i64 v, .bool true]) ∧ Below w.heap.size w w' := by
  obtain ⟨hz, n, t, k, hp, hn, hw⟩ := h
  exact eval4_any vb N mo l s n t k sn w hp hz hv hx hsn hT hn _ hw (by simp)
theorem eval4_bad {vb N : Nat} {mo : Option Nat} {l : Vl} {s : ByteArray} {sn : Nat → Addr} {w : World} (h : Fails l s) (hv : VarsAt w vb mo N l) (hx : ∀ x ∈ l, x.2.size ≤ 9223372036854775807) (hsn : Er w sn) (hT : TP w) :
    Calls Tryz.prog 32 #[.string s, .pointer (some ⟨vb, 0, none⟩)] w fun e w' => e = .returned (.tuple #[.int .i64 0, .bool false]) ∧ Below w.heap.size w w' := by
  obtain ⟨hz, n, t, k, hp, hn, c, p, hw⟩ := h
  exact eval4_any vb N mo l s n t k sn w hp hz hv hx hsn hT hn _ hw (by simp)
set_option maxRecDepth 100000 in
set_option maxHeartbeats 8000000 in
theorem same4_any (bx vb N : Nat) (mo : Option Nat) (l : Vl) (s t : ByteArray) (v : Int) (sn : Nat → Addr) (w : World) (h1 : Worth l s v) (h2 : Worth l t v) (hb : bx < w.heap.size) (hc : w.cell? ⟨bx, 0, none⟩ = some (.pointer (some ⟨vb, 0, none⟩))) (hv : VarsAt w vb mo N l) (hx : ∀ x ∈ l, x.2.size ≤ 9223372036854775807) (hsn : Er w sn) (hT : TP w) :
    Calls Tryz.prog 34 #[.string s, .string t, .pointer (some ⟨bx, 0, none⟩)] w fun e w' => e = .returned (.bool true) ∧ Below w.heap.size w w' := by
  have HE1 := Lib.hid (eval4_wo h1 hv hx hsn hT)
  have HE2 : Hid (∀ X, Below w.heap.size w X → _) := Lib.hid (fun X hX => eval4_wo (w := X) h2 (hv.below hX) hx (hsn.below hX) (hT.below hX))
  have HC := Lib.hid hc
  have HBX := Lib.hid hb
  clear h1 h2 hv hx hsn hT
  go_enter Tryz.func34, Tryz.ntmps34
  go_wp2_with fail
  refine HE1.out.mono ?_
  rintro e X1 ⟨rfl, hb1⟩
  have hc1 : X1.cell? ⟨bx, 0, none⟩ = some (.pointer (some ⟨vb, 0, none⟩)) := (hb1.cell (p := ⟨bx, 0, none⟩) HBX.out).trans HC.out
  have HB1 := Lib.hid hb1
  clear hb1 hc
  go_wp2_with fail
  refine (HE2.out X1 HB1.out).mono ?_
  rintro e X2 ⟨rfl, hb2⟩
  have HB2 := Lib.hid (HB1.out.trans (hb2.mono HB1.out.size))
  clear hb2 hc1
  go_wp2_with fail
  go_ret
  exact ⟨rfl, HB2.out⟩
end Go.Proofs.YthpmkpnndbjflaaGreatDoor
/- Plain facts: the texts that the law puts together, and what they are worth. No program. -/
namespace Go.Proofs.YthpmkpnndbjflaaGreatDoor
open Go.RowKit

theorem bys_cat (x y : ByteArray) : bys (x ++ y) = bys x ++ bys y := by
  unfold bys
  rw [ByteArray.data_append, Array.toList_append, List.map_append]
theorem OpdX.weak {X : List Int} {P Q : Tr → Prop} (h : OpdX X P) (hPQ : ∀ x, P x → Q x) : OpdX X Q := ⟨h.hd, fun L y r hL => by
  obtain ⟨h1, e, he, hr⟩ := h.at_ L y r hL
  exact ⟨h1, e, hPQ e he, hr⟩⟩
/-- An operand without assignments, worth v wherever it stands. -/
def OpdW (l : Vl) (X : List Int) (v : Int) : Prop := OpdX X (fun x => x.NoAsg ∧ Wo (NVl l) x v)
theorem OpdW.par {l : Vl} {b : List Int} {n : Nat} {e : Tr} {t : Tk} {v : Int} (hp : parseP b n = some (.ok e t)) (hn : e.NoAsg) (hw : ∀ k, Wo (NVl l) (e.sh k) v) : OpdW l (40 :: (b ++ [41])) v :=
  (opd_par hp).weak (by rintro x ⟨k, rfl⟩; exact ⟨hn.sh, hw k⟩)
theorem OpdW.un {l : Vl} {X : List Int} {v x : Int} (h : OpdW l X v) (c : Nat) (s : ByteArray) (hs : s ∈ opList) (hb : bys s = [(c : Int)]) (hu : ¬ unB s = sEmpty) (hc : (c : Int) = 126 ∨ (c : Int) = 33 ∨ (c : Int) = 45) (hr : resO (unB s) 0 v = some x) : OpdW l ((c : Int) :: X) x :=
  (opd_unX h c s hs hb hu hc).weak (by rintro y ⟨p, e, rfl, h1, h2⟩; exact ⟨h1, h2.un _ p hr⟩)
theorem OpdW.parbin {l : Vl} {X Y : List Int} {v u x : Int} (hX : OpdW l X v) (hY : OpdW l Y u) {s : ByteArray} (hs : s ∈ opList) (h1 : 1 ≤ strN s) (hw : ∀ q ex ey, Wo (NVl l) ex v → Wo (NVl l) ey u → Wo (NVl l) (.bin s q ex ey) x) : OpdW l (40 :: ((X ++ (bys s ++ Y)) ++ [41])) x :=
  (opd_parbin hX hY hs h1).weak (by rintro z ⟨q, ex, ey, rfl, ⟨a1, a2⟩, b1, b2⟩; refine ⟨?_, hw q ex ey a2 b2⟩; exact And.intro a1 b1)
theorem worth_bin {l : Vl} {X Y : List Int} {v u x : Int} (hX : OpdW l X v) (hY : OpdW l Y u) {s : ByteArray} (hs : s ∈ opList) (h1 : 1 ≤ strN s) (hw : ∀ q ex ey, Wo (NVl l) ex v → Wo (NVl l) ey u → Wo (NVl l) (.bin s q ex ey) x) (hl : (X ++ (bys s ++ Y)).length ≤ 1024) {str : ByteArray} (hstr : bys str = X ++ (bys s ++ Y)) : Worth l str x := by
  obtain ⟨n, q, ex, ey, t, ⟨a1, a2⟩, ⟨b1, b2⟩, hp⟩ := parse_bin hX hY hs h1 hl
  exact ⟨by have := bys_length str; rw [hstr] at this; omega, n, .bin s q ex ey, t, by rw [hstr]; exact hp, And.intro a1 b1, hw q ex ey a2 b2⟩
theorem worth_opd {l : Vl} {X : List Int} {v : Int} (hX : OpdW l X v) (hl : X.length ≤ 1024) {str : ByteArray} (hstr : bys str = X) : Worth l str v := by
  obtain ⟨n, e, t, ⟨h1, h2⟩, hp⟩ := parse_opd hX hl
  exact ⟨by have := bys_length str; rw [hstr] at this; omega, n, e, t, by rw [hstr]; exact hp, h1, h2⟩
theorem fails_opd {l : Vl} {X : List Int} (hX : OpdX X (fun x => x.NoAsg ∧ ∃ c p, ev (NVl l) x [] = .bad c p)) (hl : X.length ≤ 1024) {str : ByteArray} (hstr : bys str = X) : Fails l str := by
  obtain ⟨n, e, t, ⟨h1, h2⟩, hp⟩ := parse_opd hX hl
  exact ⟨by have := bys_length str; rw [hstr] at this; omega, n, e, t, by rw [hstr]; exact hp, h1, h2⟩
theorem wo2 {l : Vl} {v u x : Int} (s : ByteArray) (h1 : ¬ s = sAnd2) (h2 : ¬ s = sOr2) (h3 : ¬ (u = 0 ∧ (s = sDiv ∨ s = sMod))) (hr : resO s v u = some x) : ∀ q ex ey, Wo (NVl l) ex v → Wo (NVl l) ey u → Wo (NVl l) (.bin s q ex ey) x := fun q _ _ ha hb => ha.bin hb s q h1 h2 h3 hr

section
variable {l : Vl} {X Y : List Int} {x y : Int} {P Q : ByteArray}
/-- What the law wants of two texts. -/
structure Pair (l : Vl) (X Y : List Int) (x y : Int) (P Q : ByteArray) : Prop where
  a : OpdW l X x
  b : OpdW l Y y
  lx : X.length ≤ 202
  ly : Y.length ≤ 202
  p : bys P = X
  q : bys Q = Y
theorem Pair.swap (h : Pair l X Y x y P Q) : Pair l Y X y x Q P := ⟨h.b, h.a, h.ly, h.lx, h.q, h.p⟩
theorem Pair.op (h : Pair l X Y x y P Q) (s : ByteArray) (hs : s ∈ opList) (hn : 1 ≤ strN s) (hz : s.size ≤ 3) {v : Int} (hw : ∀ q ex ey, Wo (NVl l) ex x → Wo (NVl l) ey y → Wo (NVl l) (.bin s q ex ey) v) : Worth l (P ++ s ++ Q) v :=
  worth_bin h.a h.b hs hn hw (by have := h.lx; have := h.ly; have := bys_length s; simp only [List.length_append]; omega) (by rw [bys_cat, bys_cat, h.p, h.q, List.append_assoc])
theorem pair_add (h : Pair l X Y x y P Q) : Worth l (P ++ ⟨#[43]⟩ ++ Q) (wrap64 (x + y)) := h.op ⟨#[43]⟩ (by simp [opList]) (by decide) (by decide) (wo2 _ (by decide) (by decide) (by rintro ⟨_, h | h⟩ <;> exact absurd h (by decide)) rfl)
theorem pair_mul (h : Pair l X Y x y P Q) : Worth l (P ++ ⟨#[42]⟩ ++ Q) (wrap64 (x * y)) := h.op ⟨#[42]⟩ (by simp [opList]) (by decide) (by decide) (wo2 _ (by decide) (by decide) (by rintro ⟨_, h | h⟩ <;> exact absurd h (by decide)) rfl)
theorem pair_sub (h : Pair l X Y x y P Q) : Worth l (P ++ ⟨#[45]⟩ ++ Q) (wrap64 (x - y)) := h.op ⟨#[45]⟩ (by simp [opList]) (by decide) (by decide) (wo2 _ (by decide) (by decide) (by rintro ⟨_, h | h⟩ <;> exact absurd h (by decide)) rfl)
theorem pair_lt (h : Pair l X Y x y P Q) : Worth l (P ++ ⟨#[60]⟩ ++ Q) (if x < y then 1 else 0) := h.op ⟨#[60]⟩ (by simp [opList]) (by decide) (by decide) (wo2 _ (by decide) (by decide) (by rintro ⟨_, h | h⟩ <;> exact absurd h (by decide)) rfl)
theorem pair_gt (h : Pair l X Y x y P Q) : Worth l (P ++ ⟨#[62]⟩ ++ Q) (if y < x then 1 else 0) := h.op ⟨#[62]⟩ (by simp [opList]) (by decide) (by decide) (wo2 _ (by decide) (by decide) (by rintro ⟨_, h | h⟩ <;> exact absurd h (by decide)) rfl)
theorem pair_le (h : Pair l X Y x y P Q) : Worth l (P ++ ⟨#[60, 61]⟩ ++ Q) (if x ≤ y then 1 else 0) := h.op ⟨#[60, 61]⟩ (by simp [opList]) (by decide) (by decide) (wo2 _ (by decide) (by decide) (by rintro ⟨_, h | h⟩ <;> exact absurd h (by decide)) rfl)
theorem pair_div (h : Pair l X Y x y P Q) (hy : ¬ y = 0) : Worth l (P ++ ⟨#[47]⟩ ++ Q) (wrap64 (x.tdiv y)) := h.op ⟨#[47]⟩ (by simp [opList]) (by decide) (by decide) (wo2 _ (by decide) (by decide) (fun h => hy h.1) (by show (if y = 0 then none else some _) = _; rw [if_neg hy]))
theorem pair_mod (h : Pair l X Y x y P Q) (hy : ¬ y = 0) : Worth l (P ++ ⟨#[37]⟩ ++ Q) (x.tmod y) := h.op ⟨#[37]⟩ (by simp [opList]) (by decide) (by decide) (wo2 _ (by decide) (by decide) (fun h => hy h.1) (by show (if y = 0 then none else some _) = _; rw [if_neg hy]))
theorem pair_turn (h : Pair l X Y x y P Q) : Worth l (P ++ ⟨#[43, 32, 45]⟩ ++ Q) (wrap64 (x - y)) := by
  have hB : OpdW l (32 :: ((45 : Nat) : Int) :: Y) (wrap64 (-y)) := opd_sp (OpdW.un h.b 45 ⟨#[45]⟩ (by simp [opList]) (by decide) (by decide) (Or.inr (Or.inr rfl)) rfl)
  have hw : wrap64 (x + wrap64 (-y)) = wrap64 (x - y) := by unfold wrap64; omega
  rw [← hw]
  refine worth_bin h.a hB (s := ⟨#[43]⟩) (by simp [opList]) (by decide) (wo2 _ (by decide) (by decide) (by rintro ⟨_, h | h⟩ <;> exact absurd h (by decide)) rfl) (by have := h.lx; have := h.ly; have : (bys ⟨#[43]⟩).length = 1 := (by decide); simp only [List.length_append, List.length_cons]; omega) ?_
  rw [bys_cat, bys_cat, h.p, h.q, show bys ⟨#[43, 32, 45]⟩ = [43, 32, 45] from by decide, show bys ⟨#[43]⟩ = [43] from by decide]
  simp
theorem pair_nand (h : Pair l X Y x y P Q) : Worth l (⟨#[126, 40]⟩ ++ P ++ ⟨#[38]⟩ ++ Q ++ ⟨#[41]⟩) (bits .xor .i64 (-1) (bits .and .i64 x y)) := by
  have hA := OpdW.parbin h.a h.b (s := ⟨#[38]⟩) (x := bits .and .i64 x y) (by simp [opList]) (by decide) (wo2 _ (by decide) (by decide) (by rintro ⟨_, h | h⟩ <;> exact absurd h (by decide)) rfl)
  have hB := OpdW.un hA 126 ⟨#[126]⟩ (x := bits .xor .i64 (-1) (bits .and .i64 x y)) (by simp [opList]) (by decide) (by decide) (Or.inl rfl) rfl
  refine worth_opd hB (by have := h.lx; have := h.ly; have : (bys ⟨#[38]⟩).length = 1 := (by decide); simp only [List.length_append, List.length_cons, List.length_nil]; omega) ?_
  rw [bys_cat, bys_cat, bys_cat, bys_cat, h.p, h.q, show bys ⟨#[126, 40]⟩ = [126, 40] from by decide, show bys ⟨#[38]⟩ = [38] from by decide, show bys ⟨#[41]⟩ = [41] from by decide]
  simp
theorem pair_nor (h : Pair l X Y x y P Q) : Worth l (⟨#[126]⟩ ++ P ++ ⟨#[124, 126]⟩ ++ Q) (bits .xor .i64 (-1) (bits .and .i64 x y)) := by
  have hA := OpdW.un h.a 126 ⟨#[126]⟩ (x := bits .xor .i64 (-1) x) (by simp [opList]) (by decide) (by decide) (Or.inl rfl) rfl
  have hB := OpdW.un h.b 126 ⟨#[126]⟩ (x := bits .xor .i64 (-1) y) (by simp [opList]) (by decide) (by decide) (Or.inl rfl) rfl
  rw [morgan]
  refine worth_bin hA hB (s := ⟨#[124]⟩) (by simp [opList]) (by decide) (wo2 _ (by decide) (by decide) (by rintro ⟨_, h | h⟩ <;> exact absurd h (by decide)) rfl) (by have := h.lx; have := h.ly; have : (bys ⟨#[124]⟩).length = 1 := (by decide); simp only [List.length_append, List.length_cons]; omega) ?_
  rw [bys_cat, bys_cat, bys_cat, h.p, h.q, show bys ⟨#[124, 126]⟩ = [124, 126] from by decide, show bys ⟨#[126]⟩ = [126] from by decide, show bys ⟨#[124]⟩ = [124] from by decide]
  simp
theorem pair_nand2 (h : Pair l X Y x y P Q) : Worth l (⟨#[33, 40]⟩ ++ P ++ ⟨#[38, 38]⟩ ++ Q ++ ⟨#[41]⟩) (if x = 0 ∨ y = 0 then 1 else 0) := by
  have hA := OpdW.parbin h.a h.b (s := sAnd2) (by simp [opList, sAnd2]) (by decide) (fun q _ _ ha hb => ha.and hb q)
  have hB := OpdW.un hA 33 ⟨#[33]⟩ (x := if x = 0 ∨ y = 0 then 1 else 0) (by simp [opList]) (by decide) (by decide) (Or.inr (Or.inl rfl)) (by
    show some _ = some _
    by_cases h1 : x = 0 <;> by_cases h2 : y = 0 <;> simp [h1, h2])
  refine worth_opd hB (by have := h.lx; have := h.ly; have : (bys sAnd2).length = 2 := (by decide); simp only [List.length_append, List.length_cons, List.length_nil]; omega) ?_
  rw [bys_cat, bys_cat, bys_cat, bys_cat, h.p, h.q, show bys ⟨#[33, 40]⟩ = [33, 40] from by decide, show bys ⟨#[38, 38]⟩ = [38, 38] from by decide, show bys sAnd2 = [38, 38] from by decide, show bys ⟨#[41]⟩ = [41] from by decide]
  simp
theorem pair_nor2 (h : Pair l X Y x y P Q) : Worth l (⟨#[33]⟩ ++ P ++ ⟨#[124, 124, 33]⟩ ++ Q) (if x = 0 ∨ y = 0 then 1 else 0) := by
  have hA := OpdW.un h.a 33 ⟨#[33]⟩ (x := if x = 0 then 1 else 0) (by simp [opList]) (by decide) (by decide) (Or.inr (Or.inl rfl)) rfl
  have hB := OpdW.un h.b 33 ⟨#[33]⟩ (x := if y = 0 then 1 else 0) (by simp [opList]) (by decide) (by decide) (Or.inr (Or.inl rfl)) rfl
  have hW := worth_bin hA hB (s := sOr2) (str := ⟨#[33]⟩ ++ P ++ ⟨#[124, 124, 33]⟩ ++ Q) (by simp [opList, sOr2]) (by decide) (fun q _ _ ha hb => ha.or hb q) (by have := h.lx; have := h.ly; have : (bys sOr2).length = 2 := (by decide); simp only [List.length_append, List.length_cons]; omega) (by
    rw [bys_cat, bys_cat, bys_cat, h.p, h.q, show bys ⟨#[124, 124, 33]⟩ = [124, 124, 33] from by decide, show bys ⟨#[33]⟩ = [33] from by decide, show bys sOr2 = [124, 124] from by decide]
    simp)
  have e : (if (if x = 0 then (1 : Int) else 0) = 0 then (if (if y = 0 then (1 : Int) else 0) ≠ 0 then (1 : Int) else 0) else 1) = if x = 0 ∨ y = 0 then 1 else 0 := by
    by_cases h1 : x = 0 <;> by_cases h2 : y = 0 <;> simp [h1, h2]
  rw [← e]
  exact hW
theorem pair_ngt (h : Pair l X Y x y P Q) : Worth l (⟨#[33, 40]⟩ ++ P ++ ⟨#[62]⟩ ++ Q ++ ⟨#[41]⟩) (if x ≤ y then 1 else 0) := by
  have hA := OpdW.parbin h.a h.b (s := ⟨#[62]⟩) (x := if y < x then 1 else 0) (by simp [opList]) (by decide) (wo2 _ (by decide) (by decide) (by rintro ⟨_, h | h⟩ <;> exact absurd h (by decide)) rfl)
  have hB := OpdW.un hA 33 ⟨#[33]⟩ (x := if x ≤ y then 1 else 0) (by simp [opList]) (by decide) (by decide) (Or.inr (Or.inl rfl)) (by
    show some _ = some _
    by_cases h1 : y < x
    · have : ¬ x ≤ y := by omega
      simp [h1, this]
    · have : x ≤ y := by omega
      simp [h1, this])
  refine worth_opd hB (by have := h.lx; have := h.ly; have : (bys ⟨#[62]⟩).length = 1 := (by decide); simp only [List.length_append, List.length_cons, List.length_nil]; omega) ?_
  rw [bys_cat, bys_cat, bys_cat, bys_cat, h.p, h.q, show bys ⟨#[33, 40]⟩ = [33, 40] from by decide, show bys ⟨#[62]⟩ = [62] from by decide, show bys ⟨#[41]⟩ = [41] from by decide]
  simp
end
end Go.Proofs.YthpmkpnndbjflaaGreatDoor
/- What a text in parentheses is worth, or that it fails; the law's eval of it. -/
namespace Go.Proofs.YthpmkpnndbjflaaGreatDoor
open Go.RowKit

theorem oneR_i64 {op : ByteArray} {v x : Int} {e e' : Asc} (h : oneR op v e = .ok x e') : I64 x := by
  unfold oneR at h
  cases hr : resO op 0 v with
  | none => rw [hr] at h; cases h
  | some y => rw [hr] at h; simp only [Rv.ok.injEq] at h; rw [← h.1]; exact res_fit hr (by unfold I64; omega)
theorem twoR_i64 {op : ByteArray} {p : Nat} {l r x : Int} {e e' : Asc} (h : twoR op p l r e = .ok x e') (hl : I64 l) : I64 x := by
  unfold twoR at h
  split at h
  · cases h
  · cases hr : resO op l r with
    | none => rw [hr] at h; cases h
    | some y => rw [hr] at h; simp only [Rv.ok.injEq] at h; rw [← h.1]; exact res_fit hr hl
theorem ev_i64 (NV : ByteArray → Int × Nat) (hNV : ∀ n, I64 (NV n).1) : ∀ (t : Tr) (e' : Asc) (v : Int), t.NoAsg → t.Fits → ev NV t [] = .ok v e' → I64 v
  | .num n p, e', v, _, hf, h => by simp only [ev, Rv.ok.injEq] at h; rw [← h.1]; exact hf
  | .name s p, e', v, _, _, h => by
    have h' : ldR NV s p [] = .ok v e' := h
    unfold ldR at h'
    have e0 : look [] s = none := rfl
    rw [e0] at h'
    simp only at h'
    split at h'
    · simp only [Rv.ok.injEq] at h'; rw [← h'.1]; exact hNV s
    · cases h'
  | .un op p a, e', v, hn, hf, h => by
    obtain ⟨u, e1, h1, h2⟩ := Rv.then_ok (show (ev NV a []).then (fun v e1 => oneR op v e1) = _ from h)
    exact oneR_i64 h2
  | .bin op p a b, e', v, hn, hf, h => by
    obtain ⟨u, e1, h1, h2⟩ := Rv.then_ok (show (ev NV a []).then _ = _ from h)
    have i0 := ev_i64 NV hNV a e1 u hn.1 hf.1 h1
    by_cases c1 : op = sAnd2
    · rw [if_pos c1] at h2
      by_cases c : u = 0
      · rw [if_pos c] at h2; simp only [Rv.ok.injEq] at h2; rw [← h2.1]; unfold I64; omega
      · rw [if_neg c] at h2
        obtain ⟨x, e2, j1, j2⟩ := Rv.then_ok h2
        exact oneR_i64 j2
    · rw [if_neg c1] at h2
      by_cases c2 : op = sOr2
      · rw [if_pos c2] at h2
        by_cases c : u = 0
        · rw [if_pos c] at h2
          obtain ⟨x, e2, j1, j2⟩ := Rv.then_ok h2
          exact oneR_i64 j2
        · rw [if_neg c] at h2; simp only [Rv.ok.injEq] at h2; rw [← h2.1]; unfold I64; omega
      · rw [if_neg c2] at h2
        obtain ⟨x, e2, j1, j2⟩ := Rv.then_ok h2
        exact twoR_i64 j2 i0
  | .cond op p a b c, e', v, hn, hf, h => by
    obtain ⟨u, e1, h1, h2⟩ := Rv.then_ok (show (ev NV a []).then _ = _ from h)
    have i1 := ev_env NV a [] e1 u hn.1 h1
    subst i1
    by_cases c0 : u = 0
    · rw [if_pos c0] at h2; exact ev_i64 NV hNV c e' v hn.2.2 hf.2.2 h2
    · rw [if_neg c0] at h2; exact ev_i64 NV hNV b e' v hn.2.1 hf.2.1 h2
  | .asg _ _ _ _ _, _, _, hn, _, _ => hn.elim
/-- A text in parentheses: worth x, or it fails. -/
def OutW (l : Vl) (b : List Int) (P : ByteArray) (x : Int) (ok : Bool) : Prop := (ok = true ∧ OpdW l (40 :: (b ++ [41])) x ∧ Worth l P x ∧ I64 x) ∨ (ok = false ∧ x = 0 ∧ Fails l P)
def inP (l : List Int) : ByteArray := ⟨#[40]⟩ ++ ofBys l ++ ⟨#[41]⟩
theorem inP_size (l : List Int) : (inP l).size = l.length + 2 := by
  unfold inP
  rw [ByteArray.size_append, ByteArray.size_append, ofBys_size]
  show 1 + l.length + 1 = _
  omega
theorem inP_bys {l : List Int} (h : Byt l) : bys (inP l) = 40 :: (l ++ [41]) := by
  unfold inP
  simp only [bys_cat, bys_ofBys h]
  simp [bys]
theorem sh_zero : ∀ t : Tr, t.sh 0 = t := by
  intro t
  induction t <;> simp_all [Tr.sh]
theorem out_of {l : Vl} {b : List Int} (hb : Byt b) (hno : ∀ i, i < b.length → ¬ SetI b i) (hl : b.length ≤ 200) {n : Nat} {e : Tr} {t : Tk} (hp : parseP b n = some (.ok e t)) : ∃ x ok, OutW l b (inP b) x ok := by
  have hn := parse_noasg hb hno hp
  have ho := parseP_ops hb hp
  have hf := fits_txt 32768 (by decide) e ho (parseP_len hp)
  have hlen : (40 :: (b ++ [41]) : List Int).length ≤ 1024 := by simp only [List.length_cons, List.length_append, List.length_nil]; omega
  rcases ev_either (NVl l) e hn ho with ⟨v, hv⟩ | hbad
  · have hO := OpdW.par (l := l) hp hn hv
    exact ⟨v, true, Or.inl ⟨rfl, hO, worth_opd hO hlen (inP_bys hb), ev_i64 (NVl l) (fun n => (numOf_fit _).1) e [] v hn hf (by have := hv 0; rw [sh_zero] at this; exact this)⟩⟩
  · exact ⟨0, false, Or.inr ⟨rfl, rfl, fails_opd ((opd_par hp).weak (by rintro x ⟨k, rfl⟩; exact ⟨hn.sh, hbad k⟩)) hlen (inP_bys hb)⟩⟩
theorem eval4_out {vb N : Nat} {mo : Option Nat} {l : Vl} {b : List Int} {s : ByteArray} {x : Int} {ok : Bool} {sn : Nat → Addr} {w : World} (h : OutW l b s x ok) (hv : VarsAt w vb mo N l) (hx : ∀ x ∈ l, x.2.size ≤ 9223372036854775807) (hsn : Er w sn) (hT : TP w) :
    Calls Tryz.prog 32 #[.string s, .pointer (some ⟨vb, 0, none⟩)] w fun e w' => e = .returned (.tuple #[.int .i64 x, .bool ok]) ∧ Below w.heap.size w w' := by
  rcases h with ⟨rfl, _, h, _⟩ | ⟨rfl, rfl, h⟩
  · exact eval4_wo h hv hx hsn hT
  · exact eval4_bad h hv hx hsn hT
theorem parse_val (v : Value) (l : List Int) (s : Nat → Addr) (w : World) (hs : Sl w v l) (he : Er w s) :
    Calls Tryz.prog 23 #[v] w fun x w' => (∃ pv ev, x = .returned (.tuple #[pv, ev]) ∧ ((ev = .nilIface ∧ ∃ n e t, parseP l n = some (.ok e t)) ∨ ∃ y, ev = .iface 93 y)) ∧ Below w.heap.size w w' := by
  obtain ⟨r, hr⟩ := parseP_some l
  cases r with
  | ok e t =>
    refine (eparse_ok v l _ e t s w hr hs he).mono ?_
    rintro x w' ⟨⟨E, rfl, _⟩, hb⟩
    exact ⟨⟨_, _, rfl, Or.inl ⟨rfl, _, e, t, hr⟩⟩, hb⟩
  | bad c p =>
    refine (eparse_bad v l _ c p s w hr hs he).mono ?_
    rintro x w' ⟨⟨pv, rfl, _⟩, hb⟩
    exact ⟨⟨_, _, rfl, Or.inr ⟨pv, rfl⟩⟩, hb⟩
end Go.Proofs.YthpmkpnndbjflaaGreatDoor
