/- Proved here: for every pattern text and subject the comparisons that Steps tells are at least none and at most the length and one times the pieces and one. Condition: the sentinels' variables and the listed table read as the row lists them, which the tie gives. -/
import Derived.Test.YtopnckfmdjhbjaaDoorGlPar
import Derived.Test.YtopnckfmdjhbjaaDoorSeOpn
import Derived.Test.YtopnckfmdjhbjaaDoorFaSents
import Derived.Test.YtopnckfmdjhbjaaDoorRows
import Derived.LaidSub
import Derived.MakeChecks
import Derived.Test.YtopnckfmdjhbjaaDoorGmM3
import Derived.Test.YtopnckfmdjhbjaaDoorCards
import Derived.Test.YtopnckfmdjhbjaaDoorTie
import Derived.Lay
import Derived.SizedLaws
import Derived.ProofKit
import Derived.LaidMore
import Derived.Stop.Joined
import Derived.Carry
/- From the row's condition to what stage 7's walks want. -/
namespace Go.Proofs.YtopnckfmdjhbjaaDoor
open Go.RowKit

def sentKeep (x : String × DataW Unit) : Bool := (sentNames.map (·.1)).contains x.1
def tabKeep (x : String × DataW Unit) : Bool := x.1 == "math/bits.deBruijn64tab"
theorem gm_of_laid {W : World} {L : List (String × DataW Unit)} (h1 : L.filter tabKeep = [("math/bits.deBruijn64tab", Lib.tabData .u8 bruijnZ)]) (h2 : L.filter sentKeep = sentNames.map sd) (h : laidMetH Tryd.prog L W) :
    ∃ e, Es W W.heap.size e ∧ TZ W := by
  have h' := laidMetH.filter sentKeep h
  rw [h2, MakeChecks.laidMetH_plain _ _ _ (by kernel_rfl)] at h'
  obtain ⟨sl, _, hv⟩ := sents_vars h'
  have h3 := laidMetH.filter tabKeep h
  rw [h1, MakeChecks.laidMetH_plain _ _ _ (by kernel_rfl)] at h3
  have hT := tz_of_head h3
  refine ⟨fun k => sl.getD (k - 1) ⟨0, 0, none⟩, ⟨hv, ?_, Nat.le_refl _⟩, hT⟩
  have a := World.block_lt_of_cell? _ _ (hv 21 (by omega) (by omega))
  have b := World.block_lt_of_cell? _ _ (hT 0 (by decide))
  simp at a b
  omega
end Go.Proofs.YtopnckfmdjhbjaaDoor
/- GmatchSteps: its walk, opened (gen_gst.py). -/
namespace Go.Proofs.YtopnckfmdjhbjaaDoor
open Go.RowKit

theorem pieces_shp {X : World} {B : Nat} {v : Value} {ps : List Pc} (h : X.ownsRow B 66 5 v ps.length (cellsL ps)) : ∃ a c, v = .slice a ps.length c := own_shp h
theorem prod_bd {c l n : Nat} (h : c ≤ l * n) (hl : l ≤ 4000) (hn : n ≤ 256) : c ≤ (l + 1) * (n + 1) ∧ (l + 1) * (n + 1) ≤ 1028257 := by
  constructor
  · refine Nat.le_trans h (Nat.mul_le_mul (by omega) (by omega))
  · exact Nat.mul_le_mul (show l + 1 ≤ 4001 by omega) (show n + 1 ≤ 257 by omega)
set_option maxRecDepth 100000 in
set_option maxHeartbeats 4000000 in
theorem gst_ll (cf : ByteArray → (Nat → Bool) × Bool) (hcf : ClassOk cf) (e : Nat → Addr) (w : World) (a0 : Option Addr) (n0 c0 : Nat) (hn0 : 256 < n0) (b1 o1 : Nat) (s : List Int) (c1 : Nat) (hs1 : Sl w (.slice (some ⟨b1, o1, none⟩) s.length c1) s) (hl1 : 4000 < s.length) (hc1 : s.length ≤ c1) (he : Es w w.heap.size e) (hT : TZ w) :
    Calls Tryd.prog 4 #[.slice a0 n0 c0, .slice (some ⟨b1, o1, none⟩) s.length c1] w fun x w' => x = .returned (.bool true) ∧ Below w.heap.size w w' := by
  have HA : Hid (∀ X, Below w.heap.size w X → Calls Tryd.prog 16 #[] X fun x w' => x = .returned (.bool true) ∧ Below X.heap.size X w') := Lib.hid fun X hX => awake7_any cf hcf e X ⟨(he.below hX).var, Nat.lt_of_lt_of_le he.low hX.size, Nat.le_refl _⟩ (hT.below hX)
  have HR := Lib.hid (read_long e a0 n0 c0 hn0 w he)
  have hsI : (4000 : Int) < (s.length : Int) := by omega
  have hc2 : 4000 ≤ c1 := by omega
  have hsS : Sl w (.slice (some ⟨b1, o1, none⟩) 4000 c1) (s.take 4000) := by
    have hl : (s.take 4000).length = 4000 := by simp; omega
    rcases hs1.2.2 with ⟨h0, _⟩ | ⟨b, o, cap, he, hlc, hcm, hrow⟩
    · rw [h0] at hl1; simp at hl1
    · simp only [Value.slice.injEq, Option.some.injEq, Addr.mk.injEq] at he
      obtain ⟨⟨rfl, rfl, _⟩, _, rfl⟩ := he
      refine ⟨fun i => ?_, by omega, Or.inr ⟨b1, o1, c1, by rw [hl], by omega, hcm, fun i hi => ?_⟩⟩
      · by_cases hi : i < 4000
        · have := hs1.1 i
          rwa [show (s.take 4000).getD i 0 = s.getD i 0 by simp [List.getD, hi]]
        · rw [List.getD, List.getElem?_eq_none (by omega)]; simp
      · rw [hl] at hi
        rw [show (s.take 4000).getD i 0 = s.getD i 0 by simp [List.getD, hi]]
        exact hrow i (by omega)
  have hle : (s.take 4000).length ≤ 4000 := by simp; omega
  clear hT he hs1 hsS hle hcf
  go_enter Tryd.func4, Tryd.ntmps4
  go_wp2_with fail
  refine HR.out.mono ?_
  rintro x w1 ⟨rfl, hb1⟩
  have HB1 := Lib.hid hb1
  clear hb1
  go_wp2_with fail
  refine (steps_nil _ _).mono ?_
  rintro x w2 ⟨rfl, rfl⟩
  go_wp2_with fail
  refine (pieces_nil _).mono ?_
  rintro x w3 ⟨rfl, rfl⟩
  go_wp2_with fail
  refine (HA.out _ HB1.out).mono ?_
  rintro x w4 ⟨rfl, hb4⟩
  have HB4 := Lib.hid (below_thn HB1.out (Nat.le_refl _) hb4)
  clear hb4
  go_wp2
  go_ret
  exact ⟨rfl, HB4.out⟩
set_option maxRecDepth 100000 in
set_option maxHeartbeats 4000000 in
theorem gst_ls (cf : ByteArray → (Nat → Bool) × Bool) (hcf : ClassOk cf) (e : Nat → Addr) (w : World) (a0 : Option Addr) (n0 c0 : Nat) (hn0 : 256 < n0) (a1 : Option Addr) (s : List Int) (c1 : Nat) (hs1 : Sl w (.slice a1 s.length c1) s) (hl1 : s.length ≤ 4000) (he : Es w w.heap.size e) (hT : TZ w) :
    Calls Tryd.prog 4 #[.slice a0 n0 c0, .slice a1 s.length c1] w fun x w' => x = .returned (.bool true) ∧ Below w.heap.size w w' := by
  have HA : Hid (∀ X, Below w.heap.size w X → Calls Tryd.prog 16 #[] X fun x w' => x = .returned (.bool true) ∧ Below X.heap.size X w') := Lib.hid fun X hX => awake7_any cf hcf e X ⟨(he.below hX).var, Nat.lt_of_lt_of_le he.low hX.size, Nat.le_refl _⟩ (hT.below hX)
  have HR := Lib.hid (read_long e a0 n0 c0 hn0 w he)
  have hsI : ¬ (4000 : Int) < (s.length : Int) := by omega
  have hsS : Sl w (.slice a1 s.length c1) s := hs1
  have hle : s.length ≤ 4000 := by exact hl1
  clear hT he hs1 hsS hle hcf
  obtain ⟨n1, hn1⟩ : ∃ n1, n1 = s.length := ⟨_, rfl⟩
  rw [← hn1] at hsI hl1 ⊢
  clear hn1
  have hge : (0 : Int) ≤ (n1 : Int) + 1 := by omega
  go_enter Tryd.func4, Tryd.ntmps4
  go_wp2_with fail
  refine HR.out.mono ?_
  rintro x w1 ⟨rfl, hb1⟩
  have HB1 := Lib.hid hb1
  clear hb1
  go_wp2_with fail
  refine (steps_nil _ _).mono ?_
  rintro x w2 ⟨rfl, rfl⟩
  go_wp2_with fail
  refine (pieces_nil _).mono ?_
  rintro x w3 ⟨rfl, rfl⟩
  go_wp2_with fail
  refine (HA.out _ HB1.out).mono ?_
  rintro x w4 ⟨rfl, hb4⟩
  have HB4 := Lib.hid (below_thn HB1.out (Nat.le_refl _) hb4)
  clear hb4
  go_wp2
  go_ret
  exact ⟨rfl, HB4.out⟩
set_option maxRecDepth 100000 in
set_option maxHeartbeats 4000000 in
theorem gst_ol (cf : ByteArray → (Nat → Bool) × Bool) (hcf : ClassOk cf) (e : Nat → Addr) (w : World) (v0 : Value) (l : List Int) (hs0 : Sl w v0 l) (hl0 : l.length ≤ 256) (b1 o1 : Nat) (s : List Int) (c1 : Nat) (hs1 : Sl w (.slice (some ⟨b1, o1, none⟩) s.length c1) s) (hl1 : 4000 < s.length) (hc1 : s.length ≤ c1) (he : Es w w.heap.size e) (hT : TZ w) :
    Calls Tryd.prog 4 #[v0, .slice (some ⟨b1, o1, none⟩) s.length c1] w fun x w' => x = .returned (.bool true) ∧ Below w.heap.size w w' := by
  have HA : Hid (∀ X, Below w.heap.size w X → Calls Tryd.prog 16 #[] X fun x w' => x = .returned (.bool true) ∧ Below X.heap.size X w') := Lib.hid fun X hX => awake7_any cf hcf e X ⟨(he.below hX).var, Nat.lt_of_lt_of_le he.low hX.size, Nat.le_refl _⟩ (hT.below hX)
  have HR := Lib.hid (read_ok cf hcf e v0 l w he hT hs0 hl0)
  have hpl : (glP cf l).length ≤ 256 := Nat.le_trans (glP_len cf l) hl0
  have hsI : (4000 : Int) < (s.length : Int) := by omega
  have hc2 : 4000 ≤ c1 := by omega
  have hsS : Sl w (.slice (some ⟨b1, o1, none⟩) 4000 c1) (s.take 4000) := by
    have hl : (s.take 4000).length = 4000 := by simp; omega
    rcases hs1.2.2 with ⟨h0, _⟩ | ⟨b, o, cap, he, hlc, hcm, hrow⟩
    · rw [h0] at hl1; simp at hl1
    · simp only [Value.slice.injEq, Option.some.injEq, Addr.mk.injEq] at he
      obtain ⟨⟨rfl, rfl, _⟩, _, rfl⟩ := he
      refine ⟨fun i => ?_, by omega, Or.inr ⟨b1, o1, c1, by rw [hl], by omega, hcm, fun i hi => ?_⟩⟩
      · by_cases hi : i < 4000
        · have := hs1.1 i
          rwa [show (s.take 4000).getD i 0 = s.getD i 0 by simp [List.getD, hi]]
        · rw [List.getD, List.getElem?_eq_none (by omega)]; simp
      · rw [hl] at hi
        rw [show (s.take 4000).getD i 0 = s.getD i 0 by simp [List.getD, hi]]
        exact hrow i (by omega)
  have hle : (s.take 4000).length ≤ 4000 := by simp; omega
  have HS := Lib.hid (fun (b : Nat) (X : World) (hb : Below w.heap.size w X) (hp : PatAt w.heap.size b (glP cf l) X) => steps_any (s.take 4000) (glP cf l) (.slice (some ⟨b1, o1, none⟩) 4000 c1) w.heap.size b X (hT.below hb) (hsS.below hb) (by omega) hp (by omega))
  have HQ := Lib.hid (fun (b : Nat) (X : World) (hp : PatAt w.heap.size b (glP cf l) X) => pieces_own w.heap.size b (glP cf l) X hp (by omega))
  have hpb := prod_bd (cends_le (s.take 4000) (glP cf l) P0) hle hpl
  generalize cends (s.take 4000) (glP cf l) P0 = c at *
  generalize glP cf l = ps at *
  rw [show (s.take 4000).length = 4000 by simp; omega] at hpb
  obtain ⟨np, hnp⟩ : ∃ np, np = ps.length := ⟨_, rfl⟩
  have HNP := Lib.hid hnp
  rw [← hnp] at hpb hpl
  have hM : (4001 : Int) * ((np : Int) + 1) = (((4000 + 1) * (np + 1) : Nat) : Int) := by simp
  generalize (4000 + 1) * (np + 1) = M at *
  obtain ⟨hcM, hMb⟩ := hpb
  have hcMI : (c : Int) ≤ (M : Int) := by omega
  clear hnp
  clear hT he hs1 hsS hle hs0 hcf
  go_enter Tryd.func4, Tryd.ntmps4
  go_wp2_with fail
  refine HR.out.mono ?_
  rintro x w1 ⟨b, rfl, hp1, hb1⟩
  have HB1 := Lib.hid hb1
  have HP1 := Lib.hid hp1
  have HSS := Lib.hid (HS.out b w1 hb1 hp1)
  clear hb1 hp1
  go_wp2_with fail
  refine HSS.out.mono ?_
  rintro x w2 ⟨rfl, hb2⟩
  have HB2 := Lib.hid (below_thn HB1.out (Nat.le_refl _) hb2)
  have HQQ := HQ.out b w2 (HP1.out.next hb2)
  rw [← HNP.out] at HQQ
  have HQH := Lib.hid HQQ
  clear hb2 HQQ
  go_wp2_with fail
  refine HQH.out.mono ?_
  rintro x w3 ⟨v, rfl, hr3, hb3⟩
  rw [HNP.out] at hr3
  obtain ⟨ra, rc, hv⟩ := pieces_shp hr3
  rw [← HNP.out] at hv
  subst hv
  have HB3 := Lib.hid (below_thn HB2.out (Nat.le_refl _) hb3)
  clear hr3 hb3
  go_wp2_with fail
  refine (HA.out _ HB3.out).mono ?_
  rintro x w4 ⟨rfl, hb4⟩
  have HB4 := Lib.hid (below_thn HB3.out (Nat.le_refl _) hb4)
  clear hb4
  go_wp2
  go_ret
  exact ⟨rfl, HB4.out⟩
set_option maxRecDepth 100000 in
set_option maxHeartbeats 4000000 in
theorem gst_os (cf : ByteArray → (Nat → Bool) × Bool) (hcf : ClassOk cf) (e : Nat → Addr) (w : World) (v0 : Value) (l : List Int) (hs0 : Sl w v0 l) (hl0 : l.length ≤ 256) (a1 : Option Addr) (s : List Int) (c1 : Nat) (hs1 : Sl w (.slice a1 s.length c1) s) (hl1 : s.length ≤ 4000) (he : Es w w.heap.size e) (hT : TZ w) :
    Calls Tryd.prog 4 #[v0, .slice a1 s.length c1] w fun x w' => x = .returned (.bool true) ∧ Below w.heap.size w w' := by
  have HA : Hid (∀ X, Below w.heap.size w X → Calls Tryd.prog 16 #[] X fun x w' => x = .returned (.bool true) ∧ Below X.heap.size X w') := Lib.hid fun X hX => awake7_any cf hcf e X ⟨(he.below hX).var, Nat.lt_of_lt_of_le he.low hX.size, Nat.le_refl _⟩ (hT.below hX)
  have HR := Lib.hid (read_ok cf hcf e v0 l w he hT hs0 hl0)
  have hpl : (glP cf l).length ≤ 256 := Nat.le_trans (glP_len cf l) hl0
  have hsI : ¬ (4000 : Int) < (s.length : Int) := by omega
  have hsS : Sl w (.slice a1 s.length c1) s := hs1
  have hle : s.length ≤ 4000 := by exact hl1
  have HS := Lib.hid (fun (b : Nat) (X : World) (hb : Below w.heap.size w X) (hp : PatAt w.heap.size b (glP cf l) X) => steps_any s (glP cf l) (.slice a1 s.length c1) w.heap.size b X (hT.below hb) (hsS.below hb) (by omega) hp (by omega))
  have HQ := Lib.hid (fun (b : Nat) (X : World) (hp : PatAt w.heap.size b (glP cf l) X) => pieces_own w.heap.size b (glP cf l) X hp (by omega))
  have hpb := prod_bd (cends_le s (glP cf l) P0) hle hpl
  generalize cends s (glP cf l) P0 = c at *
  generalize glP cf l = ps at *
  obtain ⟨np, hnp⟩ : ∃ np, np = ps.length := ⟨_, rfl⟩
  have HNP := Lib.hid hnp
  rw [← hnp] at hpb hpl
  have hM : ((s.length : Int) + 1) * ((np : Int) + 1) = (((s.length + 1) * (np + 1) : Nat) : Int) := by simp
  generalize (s.length + 1) * (np + 1) = M at *
  obtain ⟨hcM, hMb⟩ := hpb
  have hcMI : (c : Int) ≤ (M : Int) := by omega
  clear hnp
  clear hT he hs1 hsS hle hs0 hcf
  obtain ⟨n1, hn1⟩ : ∃ n1, n1 = s.length := ⟨_, rfl⟩
  rw [← hn1] at hsI hl1 HS hM ⊢
  clear hn1
  go_enter Tryd.func4, Tryd.ntmps4
  go_wp2_with fail
  refine HR.out.mono ?_
  rintro x w1 ⟨b, rfl, hp1, hb1⟩
  have HB1 := Lib.hid hb1
  have HP1 := Lib.hid hp1
  have HSS := Lib.hid (HS.out b w1 hb1 hp1)
  clear hb1 hp1
  go_wp2_with fail
  refine HSS.out.mono ?_
  rintro x w2 ⟨rfl, hb2⟩
  have HB2 := Lib.hid (below_thn HB1.out (Nat.le_refl _) hb2)
  have HQQ := HQ.out b w2 (HP1.out.next hb2)
  rw [← HNP.out] at HQQ
  have HQH := Lib.hid HQQ
  clear hb2 HQQ
  go_wp2_with fail
  refine HQH.out.mono ?_
  rintro x w3 ⟨v, rfl, hr3, hb3⟩
  rw [HNP.out] at hr3
  obtain ⟨ra, rc, hv⟩ := pieces_shp hr3
  rw [← HNP.out] at hv
  subst hv
  have HB3 := Lib.hid (below_thn HB2.out (Nat.le_refl _) hb3)
  clear hr3 hb3
  go_wp2_with fail
  refine (HA.out _ HB3.out).mono ?_
  rintro x w4 ⟨rfl, hb4⟩
  have HB4 := Lib.hid (below_thn HB3.out (Nat.le_refl _) hb4)
  clear hb4
  go_wp2
  go_ret
  exact ⟨rfl, HB4.out⟩

set_option maxRecDepth 100000 in
theorem gmatchSteps_open {H : Type} {enc : TypeId × Value → H} {d0 d1 : DataW H} {p0 p1 : List MemPlace} {q : Prop} (W : World) (base : Nat) (v0 v1 : Value)
    (h0 : DataW.Trod enc Tryd.prog W 0 (fun _ => true) true 22 v0 d0 p0) (h1 : DataW.Trod enc Tryd.prog W 0 (fun _ => true) true 22 v1 d1 p1)
    (k0 : Value.okWide Tryd.prog W .any base 22 v0) (k1 : Value.okWide Tryd.prog W .any base 22 v1) (_ : q) (hL : laidMetH Tryd.prog Rows.gmatchStepsRow.laid W) :
    Calls Tryd.prog 4 #[v0, v1] W fun e W' => e = .returned (.bool true) ∧ Below W.heap.size W W' := by
  obtain ⟨e, he, hT⟩ := gm_of_laid (by kernel_rfl) (by kernel_rfl) hL
  obtain ⟨cf, hcf⟩ := classes_ok
  obtain ⟨l0, hs0, _⟩ := sl_of_w k0 h0
  obtain ⟨l1, hs1, _⟩ := sl_of_w k1 h1
  by_cases hp : l0.length ≤ 256
  · rcases hs1.shape with ⟨rfl, a, cap, rfl⟩ | ⟨b, o, cap, rfl, hc, _, _⟩
    · exact gst_os cf hcf e W v0 l0 hs0 hp a [] cap hs1 (by decide) he hT
    · by_cases h4 : l1.length ≤ 4000
      · exact gst_os cf hcf e W v0 l0 hs0 hp _ l1 cap hs1 h4 he hT
      · exact gst_ol cf hcf e W v0 l0 hs0 hp b o l1 cap hs1 (by omega) hc he hT
  · obtain ⟨a0, c0, rfl⟩ : ∃ a0 c0, v0 = .slice a0 l0.length c0 := by
      rcases hs0.shape with ⟨rfl, a, cap, rfl⟩ | ⟨b, o, cap, rfl, _⟩
      · exact ⟨a, cap, rfl⟩
      · exact ⟨_, cap, rfl⟩
    rcases hs1.shape with ⟨rfl, a, cap, rfl⟩ | ⟨b, o, cap, rfl, hc, _, _⟩
    · exact gst_ls cf hcf e W a0 l0.length c0 (by omega) a [] cap hs1 (by decide) he hT
    · by_cases h4 : l1.length ≤ 4000
      · exact gst_ls cf hcf e W a0 l0.length c0 (by omega) _ l1 cap hs1 h4 he hT
      · exact gst_ll cf hcf e W a0 l0.length c0 (by omega) b o l1 cap hs1 (by omega) hc he hT
end Go.Proofs.YtopnckfmdjhbjaaDoor
namespace Go.Proofs.YtopnckfmdjhbjaaDoor
open Go.ChangeShapes Go.WideShapes Go.ChangeAt Go.RowKit

theorem gmatchSteps_own : ownKnob Tryd.prog.godebug = none := by kernel_rfl
theorem gmatchSteps_laidOut : laidOutB Tryd.prog = true := by kernel_rfl

set_option maxRecDepth 100000 in
theorem gmatchSteps_lifted (os : Os) (started : os.Started) (H : Type) (enc : TypeId × Value → H) :
    ReturnsInHanded {} Tryd.checked os 4 .any (fun w args => (Rows.gmatchStepsSpec.pre enc Tryd.prog Tryd.f4 [] false w args ∧ laidMetH Tryd.prog Rows.gmatchStepsRow.laid w) ∧ sizedMet enc Tryd.prog Tryd.f4 (OpenSpec.ofChange Rows.gmatchStepsSpec) false w args)
      (Rows.gmatchStepsSpec.post enc Tryd.prog Tryd.f4 false true false false) := by
  refine returnsInHanded_of_change_and (C := Tryd.checked) (X := fun w _ => laidMetH Tryd.prog Rows.gmatchStepsRow.laid w) (fun _ _ _ hh h => h.of_heap hh) gmatchSteps_own started (by kernel_rfl) Tryd.func4
    (ChangeSpec.witness_shaped (enc := enc) (C := Tryd.checked) (os := os) (X := fun w _ => laidMetH Tryd.prog Rows.gmatchStepsRow.laid w) false (World.laidAll Tryd.prog os Rows.gmatchStepsRow.laid) #[.slice none 0 0, .slice none 0 0] 8 (World.laidAll_os _ _ _)
      (World.shaped_of_ZipB (by kernel_rfl) (by kernel_rfl)) (by kernel_rfl) (by kernel_rfl) (by kernel_rfl)
      (by rw [MakeChecks.laidMetH_plain _ _ _ (by kernel_rfl)]; exact laidMet_laidAll _ (by kernel_rfl) (by kernel_rfl))) ?_
  intro W base args ds gs before hval0 hW _ hsz0 hL _
  have hval : ∀ (j : Nat) t v, Tryd.f4.params[j]? = some t → args[j]? = some v → Value.okWide Tryd.prog W .any base t v := hval0
  have hsz : (DataW.weightsEach Tryd.prog (Tryd.f4.params.toList ++ Rows.gmatchStepsSpec.plain.varTypes Tryd.prog) (ds ++ gs)).all (· ≤ reachBytes) = true := hsz0
  clear hsz0
  have hW' := hW
  obtain ⟨p, q, hA0, hV, rfl, hfz, hnd⟩ := hW
  have hA : DataW.TrodAll enc Tryd.prog W 0 (fun _ => true) true Tryd.f4.params.toList args.toList ds p := hA0
  rw [Tryd.params4] at hA hval hsz
  obtain ⟨v0, v1, d0, d1, p0, p1, rfl, rfl, rfl, h0, h1⟩ := trodAll_two hA
  obtain ⟨rfl, rfl⟩ := trodVars_none hV
  clear hA0 hval0
  simp only [List.append_nil] at hW'
  have hlt : ∀ x ∈ p0 ++ (p1), x.block < W.heap.size := fun x hx => by first | simpa using hW'.lt x hx | simpa using hW'.lt x (by simpa using hx)
  refine (gmatchSteps_open W base v0 v1 h0 h1 (hval 0 22 v0 rfl rfl) (hval 1 22 v1 rfl rfl) hsz hL).mono fun e W' ⟨he, hb⟩ => ?_
  subst he
  have e1 : Rows.gmatchStepsSpec.fn H ([d0, d1] ++ []) = { results := [.lit (.bool true)], args := [d0, d1] } := by simp [Rows.gmatchStepsSpec]
  refine ⟨_, rfl, _, _, _, [], p0 ++ (p1), [], hW', ?_, ?_, ?_, hb.frame _, fun h => by cases h⟩
  · rw [e1]; exact trodAll_mk1 (shut_bool Tryd.underlying4 true)
  · rw [e1]; exact trodAll_mk2 (Below.trod gmatchSteps_laidOut (by kernel_rfl) (of_decide_eq_true (by kernel_rfl)) h0 hb (fun x hx => hlt x (by simp [hx]))) (Below.trod gmatchSteps_laidOut (by kernel_rfl) (of_decide_eq_true (by kernel_rfl)) h1 hb (fun x hx => hlt x (by simp [hx])))
  · rw [e1]; rfl

theorem gmatchSteps_said : Rows.GmatchStepsSaid :=
  OpenClaim.holds_of_wide 4 Tryd.f4 rfl rfl rfl rfl rfl rfl rfl ⟨rfl, rfl, rfl, rfl, rfl⟩ rfl rfl rfl rfl rfl (by kernel_rfl) Tryd.func4 (by kernel_rfl)
    (of_decide_eq_true (by kernel_rfl)) (by unfold Func.isWrapper; rw [if_neg (of_decide_eq_false (by kernel_rfl))]; exact ⟨rfl, rfl⟩)
    (fun os started H enc _ => gmatchSteps_lifted os started H enc)

theorem gmatchSteps_holds : Rows.GmatchStepsCardSaid :=
  Claim7.holds_tied_plain_at .later [] Rows.gmatchStepsCard.laidKinds true Rows.gmatchStepsCard.stood.harness Rows.gmatchStepsCard.stood.looks
    gmatchSteps_said (fun _ h => by cases h) (by kernel_rfl) (fun _ h => by cases h) gmatchSteps_row_tie rfl ⟨rfl, rfl⟩ (by kernel_rfl) rfl
    (fun f fn hf hfn => by
      obtain rfl : f = 4 := Option.some.inj ((show Tryd.prog.funcNamed "pidgin/pidginlaw7.GmatchSteps" = some 4 by kernel_rfl).symm.trans hf) |>.symm
      obtain rfl : fn = Tryd.f4 := (Option.some.inj (Tryd.func4.symm.trans hfn)).symm
      exact ⟨by kernel_rfl, fun j t ht => by
        rw [Tryd.params4] at ht
        have hm : t ∈ [22, 22] := by simpa using Array.mem_of_getElem? ht
        have hall : ([22, 22].all fun u => !Tryd.prog.wantsStandIn u) = true := by kernel_rfl
        exact (show Tryd.prog.wantsStandIn t = false by simpa using List.all_eq_true.1 hall t hm)⟩)
    (by kernel_rfl)
#print axioms gmatchSteps_holds
end Go.Proofs.YtopnckfmdjhbjaaDoor
