/- Proved here: two patterns with any bytes between, of which the first is not turned by what stands behind it, match just what has a beginning of the one and an end of the other that do not overlap. Condition: the sentinels' variables and the listed table read as the row lists them, which the tie gives. -/
import Derived.Test.YtopnckfmdjhbjaaDoorGlPar
import Derived.Test.YtopnckfmdjhbjaaDoorSeOpn
import Derived.Test.YtopnckfmdjhbjaaDoorFaSents
import Derived.Test.YtopnckfmdjhbjaaDoorRows
import Derived.LaidSub
import Derived.MakeChecks
import Derived.Test.YtopnckfmdjhbjaaDoorGmM4
import Derived.Test.YtopnckfmdjhbjaaDoorCards
import Derived.Test.YtopnckfmdjhbjaaDoorTie
import Derived.Lay
import Derived.SizedLaws
import Derived.ProofKit
import Derived.LaidMore
import Derived.Stop.Joined
import Derived.Carry
/- From the row's condition to what stage 7's walks want. -/
namespace Go.Proofs.YtopnckfmdjhbjaaDoor
open Go.RowKit

def sentKeep (x : String × DataW Unit) : Bool := (sentNames.map (·.1)).contains x.1
def tabKeep (x : String × DataW Unit) : Bool := x.1 == "math/bits.deBruijn64tab"
theorem gm_of_laid {W : World} {L : List (String × DataW Unit)} (h1 : L.filter tabKeep = [("math/bits.deBruijn64tab", Lib.tabData .u8 bruijnZ)]) (h2 : L.filter sentKeep = sentNames.map sd) (h : laidMetH Tryd.prog L W) :
    ∃ e, Es W W.heap.size e ∧ TZ W := by
  have h' := laidMetH.filter sentKeep h
  rw [h2, MakeChecks.laidMetH_plain _ _ _ (by kernel_rfl)] at h'
  obtain ⟨sl, _, hv⟩ := sents_vars h'
  have h3 := laidMetH.filter tabKeep h
  rw [h1, MakeChecks.laidMetH_plain _ _ _ (by kernel_rfl)] at h3
  have hT := tz_of_head h3
  refine ⟨fun k => sl.getD (k - 1) ⟨0, 0, none⟩, ⟨hv, ?_, Nat.le_refl _⟩, hT⟩
  have a := World.block_lt_of_cell? _ _ (hv 21 (by omega) (by omega))
  have b := World.block_lt_of_cell? _ _ (hT 0 (by decide))
  simp at a b
  omega
end Go.Proofs.YtopnckfmdjhbjaaDoor
/- GmatchCuts: its walk, opened (gen_gct.py). -/
namespace Go.Proofs.YtopnckfmdjhbjaaDoor
open Go.RowKit

theorem cuts_glP (cf : ByteArray → (Nat → Bool) × Bool) (l m : List Int) (h : openJ l (l.length + 1) 0 = true) : glP cf (l ++ ([42] ++ m)) = glP cf l ++ .many :: glP cf m := by
  have h1 := glP_joins cf l ([42] ++ m) h
  have h2 : glP cf [42] = [.many] := by kernel_rfl
  have h3 : openJ [42] ([42] : List Int).length.succ 0 = true := by decide
  have h4 := glP_joins cf [42] m h3
  rw [h1, h4, h2]
  rfl
theorem sl_starC (X : World) (z : Nat × Nat) : Sl (X.alloc (.cells #[.int .u8 42] 5 z)) (.slice (some ⟨X.heap.size, 0, none⟩) 1 1) [42] := sl_lit X [42] 1 z (by simp) (by decide) (by decide)
theorem gr_nil (X : World) : Gr (X.alloc (.cells #[] 5)) X.heap.size (.slice (some ⟨X.heap.size, 0, none⟩) 0 0) [] :=
  Or.inl (World.ownsRow_made (base := X.heap.size) (e := 5) (size := 1) X #[] 0 (Nat.le_refl _) (by unfold maxLen; omega) rfl)

set_option maxRecDepth 100000 in
set_option maxHeartbeats 8000000 in
theorem gct_la (w : World) (a0 : Option Addr) (n0 c0 : Nat) (a1 : Option Addr) (n1 c1 : Nat) (v2 : Value) (a : Option Addr) (len cap : Nat) (h120 : 120 < n0)
    (HF : Hid (∀ X, Calls Tryd.prog 12 #[v2] X fun e w' => e = .returned (.slice a len cap) ∧ w' = X))
    (HA : Hid (∀ X, Below w.heap.size w X → Calls Tryd.prog 16 #[] X fun x w' => x = .returned (.bool true) ∧ Below X.heap.size X w')) :
    Calls Tryd.prog 9 #[.slice a0 n0 c0, .slice a1 n1 c1, v2] w fun x w' => x = .returned (.bool true) ∧ Below w.heap.size w w' := by
  have hI2 : decide ((120 : Int) < (n0 : Int)) = true := by simp; omega
  clear h120
  go_enter Tryd.func9, Tryd.ntmps9
  go_wp2_with fail
  refine (HF.out _).mono ?_
  rintro x w0 ⟨rfl, rfl⟩
  go_wp2_with fail
  refine (HA.out _ (Below.refl _ _)).mono ?_
  rintro x w1 ⟨rfl, hb1⟩
  have HB1 := Lib.hid hb1
  clear hb1
  go_wp2
  go_ret
  exact ⟨rfl, HB1.out⟩
set_option maxRecDepth 100000 in
set_option maxHeartbeats 8000000 in
theorem gct_lb (w : World) (a0 : Option Addr) (n0 c0 : Nat) (a1 : Option Addr) (n1 c1 : Nat) (v2 : Value) (a : Option Addr) (len cap : Nat) (h120 : n0 ≤ 120) (h121 : 120 < n1)
    (HF : Hid (∀ X, Calls Tryd.prog 12 #[v2] X fun e w' => e = .returned (.slice a len cap) ∧ w' = X))
    (HA : Hid (∀ X, Below w.heap.size w X → Calls Tryd.prog 16 #[] X fun x w' => x = .returned (.bool true) ∧ Below X.heap.size X w')) :
    Calls Tryd.prog 9 #[.slice a0 n0 c0, .slice a1 n1 c1, v2] w fun x w' => x = .returned (.bool true) ∧ Below w.heap.size w w' := by
  have hI2 : decide ((120 : Int) < (n0 : Int)) = false := by simp; omega
  have hI3 : decide ((120 : Int) < (n1 : Int)) = true := by simp; omega
  clear h120 h121
  go_enter Tryd.func9, Tryd.ntmps9
  go_wp2_with fail
  refine (HF.out _).mono ?_
  rintro x w0 ⟨rfl, rfl⟩
  go_wp2_with fail
  refine (HA.out _ (Below.refl _ _)).mono ?_
  rintro x w1 ⟨rfl, hb1⟩
  have HB1 := Lib.hid hb1
  clear hb1
  go_wp2
  go_ret
  exact ⟨rfl, HB1.out⟩
set_option maxRecDepth 100000 in
set_option maxHeartbeats 8000000 in
theorem gct_walk (w : World) (a0 : Option Addr) (n0 c0 : Nat) (a1 : Option Addr) (n1 c1 : Nat) (v2 : Value) (a : Option Addr) (len cap : Nat) (h120 : n0 ≤ 120) (h121 : n1 ≤ 120) (ps qs rs : List Pc) (l m : List Int) (ok is : Bool) (x y : Nat)
    (HF : Hid (∀ X, Calls Tryd.prog 12 #[v2] X fun e w' => e = .returned (.slice a len cap) ∧ w' = X))
    (HA : Hid (∀ X, Below w.heap.size w X → Calls Tryd.prog 16 #[] X fun x w' => x = .returned (.bool true) ∧ Below X.heap.size X w'))
    (HO : Calls Tryd.prog 27 #[.slice a0 n0 c0] w (OpenPost l w))
    (HSL : Hid (Sl w (.slice a0 n0 c0) l)) (HNIL : Hid (∀ n c, (.slice a0 n0 c0 : Value) = .slice none n c → n = 0 ∧ c = 0)) (HLL : Hid (l.length = n0))
    (HSM : Hid (Sl w (.slice a1 n1 c1) m)) (HNIM : Hid (∀ n c, (.slice a1 n1 c1 : Value) = .slice none n c → n = 0 ∧ c = 0)) (HLM : Hid (m.length = n1))
    (HRA : Hid (∀ X, Below w.heap.size w X → Calls Tryd.prog 13 #[.slice a0 n0 c0] X fun x w' => ∃ b, x = .returned (.pointer (some ⟨b, 0, none⟩)) ∧ PatAt X.heap.size b ps w' ∧ Below X.heap.size X w'))
    (HRB : Hid (∀ X, Below w.heap.size w X → Calls Tryd.prog 13 #[.slice a1 n1 c1] X fun x w' => ∃ b, x = .returned (.pointer (some ⟨b, 0, none⟩)) ∧ PatAt X.heap.size b qs w' ∧ Below X.heap.size X w'))
    (HRR : Hid (∀ (X : World) (v : Value), Below w.heap.size w X → Sl X v (l ++ ([42] ++ m)) → Calls Tryd.prog 13 #[v] X fun x w' => ∃ b, x = .returned (.pointer (some ⟨b, 0, none⟩)) ∧ PatAt X.heap.size b rs w' ∧ Below X.heap.size X w'))
    (HP : Hid (∀ (B b : Nat) (X : World), Below w.heap.size w X → PatAt B b ps X → Calls Tryd.prog 17 #[.pointer (some ⟨b, 0, none⟩), .slice a len cap, .bool false] X fun e w' => e = .returned (.tuple #[.int .i64 (x : Nat), .bool ok]) ∧ Below X.heap.size X w'))
    (HQ : Hid (∀ (B b : Nat) (X : World), Below w.heap.size w X → PatAt B b qs X → Calls Tryd.prog 19 #[.pointer (some ⟨b, 0, none⟩), .slice a len cap, .bool false] X fun e w' => e = .returned (.tuple #[.int .i64 (y : Nat), .bool is]) ∧ Below X.heap.size X w'))
    (HM : Hid (openJ l (l.length + 1) 0 = true → ∀ (B b : Nat) (X : World), Below w.heap.size w X → PatAt B b rs X → Calls Tryd.prog 15 #[.pointer (some ⟨b, 0, none⟩), .slice a len cap] X fun e w' => e = .returned (.bool (ok && (is && decide (x ≤ y)))) ∧ Below X.heap.size X w')) :
    Calls Tryd.prog 9 #[.slice a0 n0 c0, .slice a1 n1 c1, v2] w fun x w' => x = .returned (.bool true) ∧ Below w.heap.size w w' := by
  have HOH := Lib.hid HO
  have hI2 : decide ((120 : Int) < (n0 : Int)) = false := by simp; omega
  have hI3 : decide ((120 : Int) < (n1 : Int)) = false := by simp; omega
  clear HO
  go_enter Tryd.func9, Tryd.ntmps9
  go_wp2_with fail
  refine (HF.out _).mono ?_
  rintro x w0 ⟨rfl, rfl⟩
  go_wp2_with fail
  refine HOH.out.mono ?_
  rintro x' w0 ⟨r, rfl, rfl, hr⟩
  cases r with
  | true =>
    clear hr
    go_wp2_with fail
    refine (HA.out _ (Below.refl _ _)).mono ?_
    rintro x w1 ⟨rfl, hb1⟩
    have HB1 := Lib.hid hb1
    clear hb1
    go_wp2
    go_ret
    exact ⟨rfl, HB1.out⟩
  | false =>
    have HOP := Lib.hid (hr rfl)
    clear hr
    have HRAH := Lib.hid (HRA.out w0 (Below.refl _ _))
    go_wp2_with fail
    refine HRAH.out.mono ?_
    rintro x' w1 ⟨bp, rfl, hp1, hb1⟩
    have HP1 := Lib.hid hp1
    have HB1 := Lib.hid hb1
    have HRBH := Lib.hid (HRB.out w1 hb1)
    clear hp1 hb1
    go_wp2_with fail
    refine HRBH.out.mono ?_
    rintro x' w2 ⟨bq, rfl, hq2, hb2⟩
    have HQ2 := Lib.hid hq2
    have HP2 := Lib.hid (HP1.out.next hb2)
    have HB2 := Lib.hid (below_thn HB1.out (Nat.le_refl _) hb2)
    clear hq2 hb2
    have HO0 := Lib.hid (gr_nil w2)
    have HBa : Hid (Below w2.heap.size w2 (w2.alloc (.cells #[] 5))) := Lib.hid ((Below.refl _ _).alloc (Nat.le_refl _) _)
    have HS2 := Lib.hid (HSL.out.below (below_thn HB2.out (Nat.le_refl _) HBa.out))
    go_wp2_with (at_builtin; refine app_gr rfl (.tmp 33) (.tmp 34) rfl w2.heap.size _ [] rfl HO0.out _ l rfl HS2.out HNIL.out (by rw [HLL.out]; simp; omega) HBa.out.size ?_)
    intro v4 w4 hown4 hb4
    have HB4 := Lib.hid (HBa.out.trans hb4)
    have HO5 := Lib.hid (hown4.alloc (.cells #[.int .u8 42] 5))
    have HB5 := Lib.hid (HB4.out.alloc HB4.out.size (.cells #[.int .u8 42] 5))
    have HS5 := Lib.hid (sl_starC w4 (0, 0))
    clear hown4 hb4
    go_wp2_with (at_builtin; refine app_gr rfl (.tmp 35) (.tmp 36) rfl w2.heap.size _ _ rfl HO5.out _ [42] rfl HS5.out (fun n c h => by cases h) (by simp; rw [HLL.out]; omega) HB5.out.size ?_)
    intro v6 w6 hown6 hb6
    have HB6 := Lib.hid (HB5.out.trans hb6)
    have HO6 := Lib.hid hown6
    have HS6 := Lib.hid (HSM.out.below (below_thn HB2.out (Nat.le_refl _) HB6.out))
    clear hown6 hb6
    go_wp2_with (at_builtin; refine app_gr rfl (.tmp 37) (.tmp 38) rfl w2.heap.size _ _ rfl HO6.out _ m rfl HS6.out HNIM.out (by simp; rw [HLL.out, HLM.out]; omega) HB6.out.size ?_)
    intro v7 w7 hown7 hb7
    have HB7 := Lib.hid (HB6.out.trans hb7)
    have HBw7 := Lib.hid (below_thn HB2.out (Nat.le_refl _) HB7.out)
    have HS7 : Hid (Sl w7 v7 (l ++ ([42] ++ m))) := Lib.hid (by
      have hg : Gr w7 w2.heap.size v7 (l ++ ([42] ++ m)) := by simpa using hown7
      exact hg.sl (byt_of (fun c hc => by
        rcases List.mem_append.1 hc with hc | hc
        · exact byt_mem HSL.out.1 hc
        · rcases List.mem_append.1 hc with hc | hc
          · obtain rfl := List.mem_singleton.1 hc; omega
          · exact byt_mem HSM.out.1 hc)) (by simp; rw [HLL.out, HLM.out]; omega))
    have HP7 := Lib.hid (HP2.out.next HB7.out)
    have HQ7 := Lib.hid (HQ2.out.next HB7.out)
    have HRRH := Lib.hid (HRR.out w7 v7 HBw7.out HS7.out)
    clear hown7 hb7
    go_wp2_with fail
    refine HRRH.out.mono ?_
    rintro x' w8 ⟨br, rfl, hr8, hb8⟩
    have HR8 := Lib.hid hr8
    have HB8 := Lib.hid (below_thn HBw7.out (Nat.le_refl _) hb8)
    have HP8 := Lib.hid (HP7.out.next hb8)
    have HQ8 := Lib.hid (HQ7.out.next hb8)
    have HPH := Lib.hid (HP.out _ bp w8 HB8.out HP8.out)
    clear hr8 hb8
    go_wp2_with fail
    refine HPH.out.mono ?_
    rintro x' w9 ⟨rfl, hb9⟩
    have HB9 := Lib.hid (below_thn HB8.out (Nat.le_refl _) hb9)
    have HR9 := Lib.hid (HR8.out.next hb9)
    have HQH := Lib.hid (HQ.out _ bq w9 HB9.out (HQ8.out.next hb9))
    clear hb9
    go_wp2_with fail
    refine HQH.out.mono ?_
    rintro x' w10 ⟨rfl, hb10⟩
    have HB10 := Lib.hid (below_thn HB9.out (Nat.le_refl _) hb10)
    have HMH := HM.out HOP.out _ br w10 HB10.out (HR9.out.next hb10)
    clear hb10
    cases ok
    · have HMM := Lib.hid (show Calls Tryd.prog 15 #[.pointer (some ⟨br, 0, none⟩), .slice a len cap] w10 fun e w' => e = .returned (.bool false) ∧ Below w10.heap.size w10 w' from HMH)
      clear HMH
      go_wp2_with fail
      refine HMM.out.mono ?_
      rintro x' w11 ⟨rfl, hb11⟩
      have HB11 := Lib.hid (below_thn HB10.out (Nat.le_refl _) hb11)
      clear hb11
      go_wp2_with fail
      refine (HA.out _ HB11.out).mono ?_
      rintro x' w12 ⟨rfl, hb12⟩
      have HB12 := Lib.hid (below_thn HB11.out (Nat.le_refl _) hb12)
      clear hb12
      go_wp2
      go_ret
      exact ⟨rfl, HB12.out⟩
    · cases is
      · have HMM := Lib.hid (show Calls Tryd.prog 15 #[.pointer (some ⟨br, 0, none⟩), .slice a len cap] w10 fun e w' => e = .returned (.bool false) ∧ Below w10.heap.size w10 w' from HMH)
        clear HMH
        go_wp2_with fail
        refine HMM.out.mono ?_
        rintro x' w11 ⟨rfl, hb11⟩
        have HB11 := Lib.hid (below_thn HB10.out (Nat.le_refl _) hb11)
        clear hb11
        go_wp2_with fail
        refine (HA.out _ HB11.out).mono ?_
        rintro x' w12 ⟨rfl, hb12⟩
        have HB12 := Lib.hid (below_thn HB11.out (Nat.le_refl _) hb12)
        clear hb12
        go_wp2
        go_ret
        exact ⟨rfl, HB12.out⟩
      · by_cases hxy : x ≤ y
        · rw [decide_eq_true hxy] at HMH
          have HMM := Lib.hid (show Calls Tryd.prog 15 #[.pointer (some ⟨br, 0, none⟩), .slice a len cap] w10 fun e w' => e = .returned (.bool true) ∧ Below w10.heap.size w10 w' from HMH)
          have hyx : ¬ y < x := by omega
          clear HMH
          go_wp2_with fail
          refine HMM.out.mono ?_
          rintro x' w11 ⟨rfl, hb11⟩
          have HB11 := Lib.hid (below_thn HB10.out (Nat.le_refl _) hb11)
          clear hb11
          go_wp2_with fail
          refine (HA.out _ HB11.out).mono ?_
          rintro x' w12 ⟨rfl, hb12⟩
          have HB12 := Lib.hid (below_thn HB11.out (Nat.le_refl _) hb12)
          clear hb12
          go_wp2
          go_ret
          exact ⟨rfl, HB12.out⟩
        · rw [decide_eq_false hxy] at HMH
          have HMM := Lib.hid (show Calls Tryd.prog 15 #[.pointer (some ⟨br, 0, none⟩), .slice a len cap] w10 fun e w' => e = .returned (.bool false) ∧ Below w10.heap.size w10 w' from HMH)
          have hyx : y < x := by omega
          clear HMH
          go_wp2_with fail
          refine HMM.out.mono ?_
          rintro x' w11 ⟨rfl, hb11⟩
          have HB11 := Lib.hid (below_thn HB10.out (Nat.le_refl _) hb11)
          clear hb11
          go_wp2_with fail
          refine (HA.out _ HB11.out).mono ?_
          rintro x' w12 ⟨rfl, hb12⟩
          have HB12 := Lib.hid (below_thn HB11.out (Nat.le_refl _) hb12)
          clear hb12
          go_wp2
          go_ret
          exact ⟨rfl, HB12.out⟩

set_option maxRecDepth 100000 in
theorem gcuts_any (cf : ByteArray → (Nat → Bool) × Bool) (hcf : ClassOk cf) (e : Nat → Addr) (w : World) (v0 v1 v2 : Value) (l m s0 : List Int) (h0 : Sl w v0 l) (h1 : Sl w v1 m) (h2 : Sl w v2 s0) (hnil : ∀ n c, v0 = .slice none n c → n = 0 ∧ c = 0) (hnim : ∀ n c, v1 = .slice none n c → n = 0 ∧ c = 0) (he : Es w w.heap.size e) (hT : TZ w) :
    Calls Tryd.prog 9 #[v0, v1, v2] w fun x w' => x = .returned (.bool true) ∧ Below w.heap.size w w' := by
  have hes : ∀ X, Below w.heap.size w X → Es X X.heap.size e := fun X hX => ⟨(he.below hX).var, Nat.lt_of_lt_of_le he.low hX.size, Nat.le_refl _⟩
  have HA : Hid (∀ X, Below w.heap.size w X → Calls Tryd.prog 16 #[] X fun x w' => x = .returned (.bool true) ∧ Below X.heap.size X w') := Lib.hid fun X hX => awake7_any cf hcf e X (hes X hX) (hT.below hX)
  obtain ⟨v', hs, HF, _⟩ := few_sl h2
  obtain ⟨a, cap, rfl⟩ := hs.lit
  have hl60 : (s0.take 60).length ≤ 60 := by simp; omega
  generalize s0.take 60 = s at *
  obtain ⟨a0, c0, rfl⟩ := h0.lit
  obtain ⟨a1, c1, rfl⟩ := h1.lit
  by_cases hp : l.length ≤ 120
  · by_cases hq : m.length ≤ 120
    · have gl := glP_len cf l
      have gm := glP_len cf m
      have gr := glP_len cf (l ++ ([42] ++ m))
      simp only [List.length_append, List.length_singleton] at gr
      refine gct_walk w a0 l.length c0 a1 m.length c1 v2 a s.length cap hp hq (glP cf l) (glP cf m) (glP cf (l ++ ([42] ++ m))) l m (pfx false (glP cf l) s).2 (sfx false (glP cf m) s).2 (pfx false (glP cf l) s).1 (sfx false (glP cf m) s).1 (Lib.hid HF) HA (open7_any a0 c0 l w h0) (Lib.hid h0) (Lib.hid hnil) (Lib.hid rfl) (Lib.hid h1) (Lib.hid hnim) (Lib.hid rfl)
        (Lib.hid fun X hX => read_ok cf hcf e _ l X (hes X hX) (hT.below hX) (h0.below hX) (by omega)) (Lib.hid fun X hX => read_ok cf hcf e _ m X (hes X hX) (hT.below hX) (h1.below hX) (by omega))
        (Lib.hid fun X v hX hv => read_ok cf hcf e v _ X (hes X hX) (hT.below hX) hv (by simp; omega)) (Lib.hid fun B b X hX hp' => prefix_any false s (glP cf l) _ B b X (hT.below hX) (hs.below hX) (by omega) hp' (by omega))
        (Lib.hid fun B b X hX hp' => suffix_any false s (glP cf m) _ B b X (hT.below hX) (hs.below hX) (by omega) hp' (by omega)) (Lib.hid fun hop B b X hX hp' => ?_)
      have := match_any s _ _ B b X (hT.below hX) (hs.below hX) (by omega) hp' (by omega)
      rw [cuts_glP cf l m hop, cuts_iff] at this
      exact this
    · exact gct_lb w a0 l.length c0 a1 m.length c1 v2 a s.length cap hp (by omega) (Lib.hid HF) HA
  · exact gct_la w a0 l.length c0 a1 m.length c1 v2 a s.length cap (by omega) (Lib.hid HF) HA

set_option maxRecDepth 100000 in
theorem gmatchCuts_open {H : Type} {enc : TypeId × Value → H} {d0 d1 d2 : DataW H} {p0 p1 p2 : List MemPlace} {q : Prop} (W : World) (base : Nat) (v0 v1 v2 : Value)
    (h0 : DataW.Trod enc Tryd.prog W 0 (fun _ => true) true 22 v0 d0 p0) (h1 : DataW.Trod enc Tryd.prog W 0 (fun _ => true) true 22 v1 d1 p1) (h2 : DataW.Trod enc Tryd.prog W 0 (fun _ => true) true 22 v2 d2 p2)
    (k0 : Value.okWide Tryd.prog W .any base 22 v0) (k1 : Value.okWide Tryd.prog W .any base 22 v1) (k2 : Value.okWide Tryd.prog W .any base 22 v2) (_ : q) (hL : laidMetH Tryd.prog Rows.gmatchCutsRow.laid W) :
    Calls Tryd.prog 9 #[v0, v1, v2] W fun e W' => e = .returned (.bool true) ∧ Below W.heap.size W W' := by
  obtain ⟨e, he, hT⟩ := gm_of_laid (by kernel_rfl) (by kernel_rfl) hL
  obtain ⟨cf, hcf⟩ := classes_ok
  obtain ⟨l0, hs0, _⟩ := sl_of_w k0 h0
  obtain ⟨l1, hs1, _⟩ := sl_of_w k1 h1
  obtain ⟨l2, hs2, _⟩ := sl_of_w k2 h2
  exact gcuts_any cf hcf e W v0 v1 v2 l0 l1 l2 hs0 hs1 hs2 (fun n c h => sl_nil2 k0 h0 n c h) (fun n c h => sl_nil2 k1 h1 n c h) he hT
end Go.Proofs.YtopnckfmdjhbjaaDoor
namespace Go.Proofs.YtopnckfmdjhbjaaDoor
open Go.ChangeShapes Go.WideShapes Go.ChangeAt Go.RowKit

theorem gmatchCuts_own : ownKnob Tryd.prog.godebug = none := by kernel_rfl
theorem gmatchCuts_laidOut : laidOutB Tryd.prog = true := by kernel_rfl

set_option maxRecDepth 100000 in
theorem gmatchCuts_lifted (os : Os) (started : os.Started) (H : Type) (enc : TypeId × Value → H) :
    ReturnsInHanded {} Tryd.checked os 9 .any (fun w args => (Rows.gmatchCutsSpec.pre enc Tryd.prog Tryd.f9 [] false w args ∧ laidMetH Tryd.prog Rows.gmatchCutsRow.laid w) ∧ sizedMet enc Tryd.prog Tryd.f9 (OpenSpec.ofChange Rows.gmatchCutsSpec) false w args)
      (Rows.gmatchCutsSpec.post enc Tryd.prog Tryd.f9 false true false false) := by
  refine returnsInHanded_of_change_and (C := Tryd.checked) (X := fun w _ => laidMetH Tryd.prog Rows.gmatchCutsRow.laid w) (fun _ _ _ hh h => h.of_heap hh) gmatchCuts_own started (by kernel_rfl) Tryd.func9
    (ChangeSpec.witness_shaped (enc := enc) (C := Tryd.checked) (os := os) (X := fun w _ => laidMetH Tryd.prog Rows.gmatchCutsRow.laid w) false (World.laidAll Tryd.prog os Rows.gmatchCutsRow.laid) #[.slice none 0 0, .slice none 0 0, .slice none 0 0] 8 (World.laidAll_os _ _ _)
      (World.shaped_of_ZipB (by kernel_rfl) (by kernel_rfl)) (by kernel_rfl) (by kernel_rfl) (by kernel_rfl)
      (by rw [MakeChecks.laidMetH_plain _ _ _ (by kernel_rfl)]; exact laidMet_laidAll _ (by kernel_rfl) (by kernel_rfl))) ?_
  intro W base args ds gs before hval0 hW _ hsz0 hL _
  have hval : ∀ (j : Nat) t v, Tryd.f9.params[j]? = some t → args[j]? = some v → Value.okWide Tryd.prog W .any base t v := hval0
  have hsz : (DataW.weightsEach Tryd.prog (Tryd.f9.params.toList ++ Rows.gmatchCutsSpec.plain.varTypes Tryd.prog) (ds ++ gs)).all (· ≤ reachBytes) = true := hsz0
  clear hsz0
  have hW' := hW
  obtain ⟨p, q, hA0, hV, rfl, hfz, hnd⟩ := hW
  have hA : DataW.TrodAll enc Tryd.prog W 0 (fun _ => true) true Tryd.f9.params.toList args.toList ds p := hA0
  rw [Tryd.params9] at hA hval hsz
  obtain ⟨v0, v1, v2, d0, d1, d2, p0, p1, p2, rfl, rfl, rfl, h0, h1, h2⟩ := trodAll_three hA
  obtain ⟨rfl, rfl⟩ := trodVars_none hV
  clear hA0 hval0
  simp only [List.append_nil] at hW'
  have hlt : ∀ x ∈ p0 ++ (p1 ++ (p2)), x.block < W.heap.size := fun x hx => by first | simpa using hW'.lt x hx | simpa using hW'.lt x (by simpa using hx)
  refine (gmatchCuts_open W base v0 v1 v2 h0 h1 h2 (hval 0 22 v0 rfl rfl) (hval 1 22 v1 rfl rfl) (hval 2 22 v2 rfl rfl) hsz hL).mono fun e W' ⟨he, hb⟩ => ?_
  subst he
  have e1 : Rows.gmatchCutsSpec.fn H ([d0, d1, d2] ++ []) = { results := [.lit (.bool true)], args := [d0, d1, d2] } := by simp [Rows.gmatchCutsSpec]
  refine ⟨_, rfl, _, _, _, [], p0 ++ (p1 ++ (p2)), [], hW', ?_, ?_, ?_, hb.frame _, fun h => by cases h⟩
  · rw [e1]; exact trodAll_mk1 (shut_bool Tryd.underlying4 true)
  · rw [e1]; exact trodAll_mk3 (Below.trod gmatchCuts_laidOut (by kernel_rfl) (of_decide_eq_true (by kernel_rfl)) h0 hb (fun x hx => hlt x (by simp [hx]))) (Below.trod gmatchCuts_laidOut (by kernel_rfl) (of_decide_eq_true (by kernel_rfl)) h1 hb (fun x hx => hlt x (by simp [hx]))) (Below.trod gmatchCuts_laidOut (by kernel_rfl) (of_decide_eq_true (by kernel_rfl)) h2 hb (fun x hx => hlt x (by simp [hx])))
  · rw [e1]; rfl

theorem gmatchCuts_said : Rows.GmatchCutsSaid :=
  OpenClaim.holds_of_wide 9 Tryd.f9 rfl rfl rfl rfl rfl rfl rfl ⟨rfl, rfl, rfl, rfl, rfl⟩ rfl rfl rfl rfl rfl (by kernel_rfl) Tryd.func9 (by kernel_rfl)
    (of_decide_eq_true (by kernel_rfl)) (by unfold Func.isWrapper; rw [if_neg (of_decide_eq_false (by kernel_rfl))]; exact ⟨rfl, rfl⟩)
    (fun os started H enc _ => gmatchCuts_lifted os started H enc)

theorem gmatchCuts_holds : Rows.GmatchCutsCardSaid :=
  Claim7.holds_tied_plain_at .later [] Rows.gmatchCutsCard.laidKinds true Rows.gmatchCutsCard.stood.harness Rows.gmatchCutsCard.stood.looks
    gmatchCuts_said (fun _ h => by cases h) (by kernel_rfl) (fun _ h => by cases h) gmatchCuts_row_tie rfl ⟨rfl, rfl⟩ (by kernel_rfl) rfl
    (fun f fn hf hfn => by
      obtain rfl : f = 9 := Option.some.inj ((show Tryd.prog.funcNamed "pidgin/pidginlaw7.GmatchCuts" = some 9 by kernel_rfl).symm.trans hf) |>.symm
      obtain rfl : fn = Tryd.f9 := (Option.some.inj (Tryd.func9.symm.trans hfn)).symm
      exact ⟨by kernel_rfl, fun j t ht => by
        rw [Tryd.params9] at ht
        have hm : t ∈ [22, 22, 22] := by simpa using Array.mem_of_getElem? ht
        have hall : ([22, 22, 22].all fun u => !Tryd.prog.wantsStandIn u) = true := by kernel_rfl
        exact (show Tryd.prog.wantsStandIn t = false by simpa using List.all_eq_true.1 hall t hm)⟩)
    (by kernel_rfl)
#print axioms gmatchCuts_holds
end Go.Proofs.YtopnckfmdjhbjaaDoor
