/- Proved here: with any bytes ahead and behind, a pattern that no byte behind it would turn matches just if it matches somewhere within. Condition: the sentinels' variables and the listed table read as the row lists them, which the tie gives. -/
import Derived.Test.YtopnckfmdjhbjaaDoorGlPar
import Derived.Test.YtopnckfmdjhbjaaDoorSeOpn
import Derived.Test.YtopnckfmdjhbjaaDoorFaSents
import Derived.Test.YtopnckfmdjhbjaaDoorRows
import Derived.LaidSub
import Derived.MakeChecks
import Derived.Test.YtopnckfmdjhbjaaDoorGmM4
import Derived.Test.YtopnckfmdjhbjaaDoorCards
import Derived.Test.YtopnckfmdjhbjaaDoorTie
import Derived.Lay
import Derived.SizedLaws
import Derived.ProofKit
import Derived.LaidMore
import Derived.Stop.Joined
import Derived.Carry
/- From the row's condition to what stage 7's walks want. -/
namespace Go.Proofs.YtopnckfmdjhbjaaDoor
open Go.RowKit

def sentKeep (x : String × DataW Unit) : Bool := (sentNames.map (·.1)).contains x.1
def tabKeep (x : String × DataW Unit) : Bool := x.1 == "math/bits.deBruijn64tab"
theorem gm_of_laid {W : World} {L : List (String × DataW Unit)} (h1 : L.filter tabKeep = [("math/bits.deBruijn64tab", Lib.tabData .u8 bruijnZ)]) (h2 : L.filter sentKeep = sentNames.map sd) (h : laidMetH Tryd.prog L W) :
    ∃ e, Es W W.heap.size e ∧ TZ W := by
  have h' := laidMetH.filter sentKeep h
  rw [h2, MakeChecks.laidMetH_plain _ _ _ (by kernel_rfl)] at h'
  obtain ⟨sl, _, hv⟩ := sents_vars h'
  have h3 := laidMetH.filter tabKeep h
  rw [h1, MakeChecks.laidMetH_plain _ _ _ (by kernel_rfl)] at h3
  have hT := tz_of_head h3
  refine ⟨fun k => sl.getD (k - 1) ⟨0, 0, none⟩, ⟨hv, ?_, Nat.le_refl _⟩, hT⟩
  have a := World.block_lt_of_cell? _ _ (hv 21 (by omega) (by omega))
  have b := World.block_lt_of_cell? _ _ (hT 0 (by decide))
  simp at a b
  omega
end Go.Proofs.YtopnckfmdjhbjaaDoor
/- GmatchStars: its walk, opened (gen_gsr.py). -/
namespace Go.Proofs.YtopnckfmdjhbjaaDoor
open Go.RowKit

theorem stars_glP (cf : ByteArray → (Nat → Bool) × Bool) (l : List Int) (h : openJ l (l.length + 1) 0 = true) : glP cf (42 :: (l ++ [42])) = .many :: (glP cf l ++ [.many]) := by
  have h1 := glP_joins cf l [42] h
  have h2 : glP cf [42] = [.many] := by kernel_rfl
  have h3 : openJ [42] ([42] : List Int).length.succ 0 = true := by decide
  have h4 := glP_joins cf [42] (l ++ [42]) h3
  rw [h1, h2] at h4
  exact h4
theorem stars_any (ps : List Pc) (s : List Int) : mtc (.many :: (ps ++ [.many])) s = (List.range (s.length + 1)).any (fun i => (pfx false ps (s.drop i)).2) := by
  apply bool_iff
  rw [stars_iff, List.any_eq_true]
  constructor
  · rintro ⟨i, hi, h⟩
    exact ⟨i, List.mem_range.2 (by omega), h⟩
  · rintro ⟨i, hi, h⟩
    exact ⟨i, by have := List.mem_range.1 hi; omega, h⟩
theorem any_snoc (f : Nat → Bool) (k : Nat) : (List.range (k + 1)).any f = ((List.range k).any f || f k) := by
  rw [List.range_succ, List.any_append]; simp
theorem sl_star (X : World) (z : Nat × Nat) : Sl (X.alloc (.cells #[.int .u8 42] 5 z)) (.slice (some ⟨X.heap.size, 0, none⟩) 1 1) [42] := sl_lit X [42] 1 z (by simp) (by decide) (by decide)

set_option maxRecDepth 100000 in
set_option maxHeartbeats 8000000 in
theorem gsr_long (w : World) (a0 : Option Addr) (n0 c0 : Nat) (v1 : Value) (a : Option Addr) (len cap : Nat) (h254 : 254 < n0)
    (HF : Hid (∀ X, Calls Tryd.prog 12 #[v1] X fun e w' => e = .returned (.slice a len cap) ∧ w' = X))
    (HA : Hid (∀ X, Below w.heap.size w X → Calls Tryd.prog 16 #[] X fun x w' => x = .returned (.bool true) ∧ Below X.heap.size X w')) :
    Calls Tryd.prog 8 #[.slice a0 n0 c0, v1] w fun x w' => x = .returned (.bool true) ∧ Below w.heap.size w w' := by
  have hI : (254 : Int) < (n0 : Int) := by omega
  have hI2 : decide ((254 : Int) < (n0 : Int)) = true := by simp; omega
  clear h254
  go_enter Tryd.func8, Tryd.ntmps8
  go_wp2_with fail
  refine (HF.out _).mono ?_
  rintro x w0 ⟨rfl, rfl⟩
  go_wp2_with fail
  refine (HA.out _ (Below.refl _ _)).mono ?_
  rintro x w1 ⟨rfl, hb1⟩
  have HB1 := Lib.hid hb1
  clear hb1
  go_wp2
  go_ret
  exact ⟨rfl, HB1.out⟩

set_option maxRecDepth 100000 in
set_option maxHeartbeats 8000000 in
theorem gsr_walk (w : World) (a0 : Option Addr) (n0 c0 : Nat) (v1 : Value) (a : Option Addr) (len cap : Nat) (h254 : n0 ≤ 254) (hl60 : len ≤ 60) (ps qs : List Pc) (l : List Int) (f : Nat → Bool) (fv : Nat → Nat)
    (HF : Hid (∀ X, Calls Tryd.prog 12 #[v1] X fun e w' => e = .returned (.slice a len cap) ∧ w' = X))
    (HA : Hid (∀ X, Below w.heap.size w X → Calls Tryd.prog 16 #[] X fun x w' => x = .returned (.bool true) ∧ Below X.heap.size X w'))
    (HO : Calls Tryd.prog 27 #[.slice a0 n0 c0] w (OpenPost l w))
    (HSL : Hid (Sl w (.slice a0 n0 c0) l)) (HNIL : Hid (∀ n c, (.slice a0 n0 c0 : Value) = .slice none n c → n = 0 ∧ c = 0)) (HLL : Hid (l.length = n0))
    (HR : Hid (∀ (X : World) (v : Value) (t : List Int), Below w.heap.size w X → Sl X v t → t.length ≤ 256 → (t = l ∨ t = 42 :: (l ++ [42])) → Calls Tryd.prog 13 #[v] X fun x w' => ∃ b, x = .returned (.pointer (some ⟨b, 0, none⟩)) ∧ PatAt X.heap.size b (if t = l then ps else qs) w' ∧ Below X.heap.size X w'))
    (HP : Hid (∀ (B b k : Nat) (X : World), k ≤ len → Below w.heap.size w X → PatAt B b ps X → Calls Tryd.prog 17 #[.pointer (some ⟨b, 0, none⟩), .slice (cutA a cap k) (len - k) (cap - k), .bool false] X fun e w' => e = .returned (.tuple #[.int .i64 (fv k : Nat), .bool (f k)]) ∧ Below X.heap.size X w'))
    (HM : Hid (openJ l (l.length + 1) 0 = true → ∀ (B b : Nat) (X : World), Below w.heap.size w X → PatAt B b qs X → Calls Tryd.prog 15 #[.pointer (some ⟨b, 0, none⟩), .slice a len cap] X fun e w' => e = .returned (.bool ((List.range (len + 1)).any f)) ∧ Below X.heap.size X w')) :
    Calls Tryd.prog 8 #[.slice a0 n0 c0, v1] w fun x w' => x = .returned (.bool true) ∧ Below w.heap.size w w' := by
  have kc := fun (w : World) (C : Array Value) (n c : Nat) => Lib.run_convert_bytes_const (P := Tryd.prog) w 22 5 C n c Tryd.underlying22 Tryd.underlying5
  have HOH := Lib.hid HO
  have hI : ¬ (254 : Int) < (n0 : Int) := by omega
  have hI2 : decide ((254 : Int) < (n0 : Int)) = false := by simp; omega
  clear HO
  go_enter Tryd.func8, Tryd.ntmps8
  go_wp2_with fail
  refine (HF.out _).mono ?_
  rintro x w0 ⟨rfl, rfl⟩
  go_wp2_with fail
  refine HOH.out.mono ?_
  rintro x w0 ⟨r, rfl, rfl, hr⟩
  cases r with
  | true =>
    clear hr
    go_wp2_with fail
    refine (HA.out _ (Below.refl _ _)).mono ?_
    rintro x w1 ⟨rfl, hb1⟩
    have HB1 := Lib.hid hb1
    clear hb1
    go_wp2
    go_ret
    exact ⟨rfl, HB1.out⟩
  | false =>
    have HOP := Lib.hid (hr rfl)
    clear hr
    have HR1 := HR.out w0 _ l (Below.refl _ _) HSL.out (by rw [HLL.out]; omega) (Or.inl rfl)
    rw [if_pos rfl] at HR1
    have HR1H := Lib.hid HR1
    clear HR1
    go_wp2_with fail
    refine HR1H.out.mono ?_
    rintro x w1 ⟨b, rfl, hp1, hb1⟩
    have HP1 := Lib.hid hp1
    have HB1 := Lib.hid hb1
    clear hp1 hb1
    have HO0 := Lib.hid (Gr.lit w1 42 (1, 2))
    have HBa : Hid (Below w1.heap.size w1 (w1.alloc (.cells #[.int .u8 42] 5 (1, 2)))) := Lib.hid ((Below.refl _ _).alloc (Nat.le_refl _) _)
    have HS2 := Lib.hid (HSL.out.below (below_thn HB1.out (Nat.le_refl _) HBa.out))
    go_wp2_with (at_builtin; refine app_gr rfl (.tmp 24) (.tmp 25) rfl w1.heap.size _ [42] rfl HO0.out _ l rfl HS2.out HNIL.out (by rw [HLL.out]; simp; omega) HBa.out.size ?_)
    intro v4 w4 hown4 hb4
    have HB4 := Lib.hid (HBa.out.trans hb4)
    have HO5 := Lib.hid (hown4.alloc (.cells #[.int .u8 42] 5))
    have HB5 := Lib.hid (HB4.out.alloc HB4.out.size (.cells #[.int .u8 42] 5))
    have HS5 := Lib.hid (sl_star w4 (0, 0))
    clear hown4 hb4
    go_wp2_with (at_builtin; refine app_gr rfl (.tmp 26) (.tmp 27) rfl w1.heap.size _ _ rfl HO5.out _ [42] rfl HS5.out (fun n c h => by cases h) (by simp; rw [HLL.out]; omega) HB5.out.size ?_)
    intro v6 w6 hown6 hb6
    have HB6 := Lib.hid (HB5.out.trans hb6)
    have HS6 : Hid (Sl w6 v6 (42 :: (l ++ [42]))) := Lib.hid (hown6.sl (byt_of (fun c hc => by
      rcases List.mem_cons.1 hc with rfl | hc
      · omega
      · rcases List.mem_append.1 hc with hc | hc
        · exact byt_mem HSL.out.1 hc
        · obtain rfl := List.mem_singleton.1 hc; omega)) (by simp; rw [HLL.out]; omega))
    clear hown6 hb6
    have HBw6 := Lib.hid (below_thn HB1.out (Nat.le_refl _) HB6.out)
    have HR2 := HR.out w6 v6 _ HBw6.out HS6.out (by simp; rw [HLL.out]; omega) (Or.inr rfl)
    rw [if_neg (by intro h; have := congrArg List.length h; simp at this; omega)] at HR2
    have HR2H := Lib.hid HR2
    have HP6 := Lib.hid (HP1.out.next HB6.out)
    clear HR2
    go_wp2_with fail
    refine HR2H.out.mono ?_
    rintro x w7 ⟨bq, rfl, hp7, hb7⟩
    have HQ7 := Lib.hid hp7
    have HB7 := Lib.hid (below_thn HBw6.out (Nat.le_refl _) hb7)
    have HP7 := Lib.hid (HP6.out.next hb7)
    clear hp7 hb7
    go_wp2_with fail
    go_loopw [7, 8] (fun sm i X => ∃ k : Nat, k ≤ len + 1 ∧ i = .int .i64 (k : Nat) ∧ sm = .bool ((List.range k).any f) ∧ Below w7.heap.size w7 X) (fun _ i _ => len + 1 - (intOf i).toNat)
    case atStart => exact ⟨0, Nat.zero_le _, rfl, rfl, Below.refl _ _⟩
    case round =>
      obtain ⟨k, hk, rfl, rfl, hbel⟩ := hrel
      have HBL := Lib.hid hbel
      have HBW := Lib.hid (below_thn HB7.out (Nat.le_refl _) hbel)
      clear hbel
      by_cases hlt : k ≤ len
      · have hkn : ¬ len < k := by omega
        have HPK := HP.out _ b k wr hlt HBW.out (HP7.out.next HBL.out)
        obtain ⟨dk, hdk⟩ : ∃ d, d = cutA a cap k := ⟨_, rfl⟩
        rw [← hdk] at HPK
        have hdk2 : (if cap = k then a else Option.map (fun x => x.add k) a) = dk := hdk.symm
        have HPKH := Lib.hid HPK
        obtain ⟨r0, hr0⟩ : ∃ r, r = (List.range k).any f := ⟨_, rfl⟩
        rw [← hr0]
        have HR0 := Lib.hid hr0
        clear HPK hdk hr0
        go_wp2_with fail
        refine HPKH.out.mono ?_
        rintro x w9 ⟨rfl, hb9⟩
        have HB9 : Hid (Below w7.heap.size w7 w9) := Lib.hid (below_thn HBL.out (Nat.le_refl _) hb9)
        clear hb9
        cases r0
        all_goals
          go_wp2_with fail
          go_roundw
          case rel => exact ⟨k + 1, by omega, by go_num, by rw [any_snoc, ← HR0.out]; simp, HB9.out⟩
          case measure => simp [intOf]; omega
      · obtain rfl : k = len + 1 := by omega
        have hlast : len < len + 1 := by omega
        have HMM := HM.out HOP.out _ bq wr HBW.out (HQ7.out.next HBL.out)
        obtain ⟨r0, hr0⟩ : ∃ r, r = (List.range (len + 1)).any f := ⟨_, rfl⟩
        rw [← hr0] at HMM ⊢
        have HMH := Lib.hid HMM
        clear HMM hr0
        go_wp2_with fail
        refine HMH.out.mono ?_
        rintro x w9 ⟨rfl, hb9⟩
        have HB9 := Lib.hid (below_thn HBW.out (Nat.le_refl _) hb9)
        clear hb9
        cases r0
        all_goals
          go_wp2_with fail
          refine (HA.out _ HB9.out).mono ?_
          rintro x w10 ⟨rfl, hb10⟩
          have HB10 := Lib.hid (below_thn HB9.out (Nat.le_refl _) hb10)
          clear hb10
          go_wp2
          go_ret
          exact ⟨rfl, HB10.out⟩

set_option maxRecDepth 100000 in
theorem gstars_any (cf : ByteArray → (Nat → Bool) × Bool) (hcf : ClassOk cf) (e : Nat → Addr) (w : World) (v0 v1 : Value) (l s0 : List Int) (h0 : Sl w v0 l) (h1 : Sl w v1 s0) (hnil : ∀ n c, v0 = .slice none n c → n = 0 ∧ c = 0) (he : Es w w.heap.size e) (hT : TZ w) :
    Calls Tryd.prog 8 #[v0, v1] w fun x w' => x = .returned (.bool true) ∧ Below w.heap.size w w' := by
  have hes : ∀ X, Below w.heap.size w X → Es X X.heap.size e := fun X hX => ⟨(he.below hX).var, Nat.lt_of_lt_of_le he.low hX.size, Nat.le_refl _⟩
  have HA : Hid (∀ X, Below w.heap.size w X → Calls Tryd.prog 16 #[] X fun x w' => x = .returned (.bool true) ∧ Below X.heap.size X w') := Lib.hid fun X hX => awake7_any cf hcf e X (hes X hX) (hT.below hX)
  obtain ⟨v', hs, HF, _⟩ := few_sl h1
  obtain ⟨a, cap, rfl⟩ := hs.lit
  have hl60 : (s0.take 60).length ≤ 60 := by simp; omega
  generalize s0.take 60 = s at *
  obtain ⟨a0, c0, rfl⟩ := h0.lit
  by_cases hp : l.length ≤ 254
  · refine gsr_walk w a0 l.length c0 v1 a s.length cap hp hl60 (glP cf l) (glP cf (42 :: (l ++ [42]))) l (fun k => (pfx false (glP cf l) (s.drop k)).2) (fun k => (pfx false (glP cf l) (s.drop k)).1) (Lib.hid HF) HA (open7_any a0 c0 l w h0) (Lib.hid h0) (Lib.hid hnil) (Lib.hid rfl) (Lib.hid fun X v t hX hv ht he => ?_) (Lib.hid fun B b k X hk hX hp' => ?_) (Lib.hid fun hop B b X hX hp' => ?_)
    · have := read_ok cf hcf e v t X (hes X hX) (hT.below hX) hv ht
      by_cases h : t = l
      · rw [if_pos h]; rw [h] at this; exact this
      · rw [if_neg h]; rcases he with he | he
        · exact absurd he h
        · rw [he] at this; exact this
    · have h3 := glP_len cf l
      exact prefix_any false (s.drop k) (glP cf l) _ B b X (hT.below hX) ((hs.from k hk).below hX) (by simp; omega) hp' (by omega)
    · have h3 := glP_len cf (42 :: (l ++ [42]))
      have := match_any s (glP cf (42 :: (l ++ [42]))) _ B b X (hT.below hX) (hs.below hX) (by omega) hp' (by simp at h3; omega)
      rw [stars_glP cf l hop, stars_any] at this
      exact this
  · exact gsr_long w a0 l.length c0 v1 a s.length cap (by omega) (Lib.hid HF) HA

set_option maxRecDepth 100000 in
theorem gmatchStars_open {H : Type} {enc : TypeId × Value → H} {d0 d1 : DataW H} {p0 p1 : List MemPlace} {q : Prop} (W : World) (base : Nat) (v0 v1 : Value)
    (h0 : DataW.Trod enc Tryd.prog W 0 (fun _ => true) true 22 v0 d0 p0) (h1 : DataW.Trod enc Tryd.prog W 0 (fun _ => true) true 22 v1 d1 p1)
    (k0 : Value.okWide Tryd.prog W .any base 22 v0) (k1 : Value.okWide Tryd.prog W .any base 22 v1) (_ : q) (hL : laidMetH Tryd.prog Rows.gmatchStarsRow.laid W) :
    Calls Tryd.prog 8 #[v0, v1] W fun e W' => e = .returned (.bool true) ∧ Below W.heap.size W W' := by
  obtain ⟨e, he, hT⟩ := gm_of_laid (by kernel_rfl) (by kernel_rfl) hL
  obtain ⟨cf, hcf⟩ := classes_ok
  obtain ⟨l0, hs0, _⟩ := sl_of_w k0 h0
  obtain ⟨l1, hs1, _⟩ := sl_of_w k1 h1
  exact gstars_any cf hcf e W v0 v1 l0 l1 hs0 hs1 (fun n c h => sl_nil2 k0 h0 n c h) he hT
end Go.Proofs.YtopnckfmdjhbjaaDoor
namespace Go.Proofs.YtopnckfmdjhbjaaDoor
open Go.ChangeShapes Go.WideShapes Go.ChangeAt Go.RowKit

theorem gmatchStars_own : ownKnob Tryd.prog.godebug = none := by kernel_rfl
theorem gmatchStars_laidOut : laidOutB Tryd.prog = true := by kernel_rfl

set_option maxRecDepth 100000 in
theorem gmatchStars_lifted (os : Os) (started : os.Started) (H : Type) (enc : TypeId × Value → H) :
    ReturnsInHanded {} Tryd.checked os 8 .any (fun w args => (Rows.gmatchStarsSpec.pre enc Tryd.prog Tryd.f8 [] false w args ∧ laidMetH Tryd.prog Rows.gmatchStarsRow.laid w) ∧ sizedMet enc Tryd.prog Tryd.f8 (OpenSpec.ofChange Rows.gmatchStarsSpec) false w args)
      (Rows.gmatchStarsSpec.post enc Tryd.prog Tryd.f8 false true false false) := by
  refine returnsInHanded_of_change_and (C := Tryd.checked) (X := fun w _ => laidMetH Tryd.prog Rows.gmatchStarsRow.laid w) (fun _ _ _ hh h => h.of_heap hh) gmatchStars_own started (by kernel_rfl) Tryd.func8
    (ChangeSpec.witness_shaped (enc := enc) (C := Tryd.checked) (os := os) (X := fun w _ => laidMetH Tryd.prog Rows.gmatchStarsRow.laid w) false (World.laidAll Tryd.prog os Rows.gmatchStarsRow.laid) #[.slice none 0 0, .slice none 0 0] 8 (World.laidAll_os _ _ _)
      (World.shaped_of_ZipB (by kernel_rfl) (by kernel_rfl)) (by kernel_rfl) (by kernel_rfl) (by kernel_rfl)
      (by rw [MakeChecks.laidMetH_plain _ _ _ (by kernel_rfl)]; exact laidMet_laidAll _ (by kernel_rfl) (by kernel_rfl))) ?_
  intro W base args ds gs before hval0 hW _ hsz0 hL _
  have hval : ∀ (j : Nat) t v, Tryd.f8.params[j]? = some t → args[j]? = some v → Value.okWide Tryd.prog W .any base t v := hval0
  have hsz : (DataW.weightsEach Tryd.prog (Tryd.f8.params.toList ++ Rows.gmatchStarsSpec.plain.varTypes Tryd.prog) (ds ++ gs)).all (· ≤ reachBytes) = true := hsz0
  clear hsz0
  have hW' := hW
  obtain ⟨p, q, hA0, hV, rfl, hfz, hnd⟩ := hW
  have hA : DataW.TrodAll enc Tryd.prog W 0 (fun _ => true) true Tryd.f8.params.toList args.toList ds p := hA0
  rw [Tryd.params8] at hA hval hsz
  obtain ⟨v0, v1, d0, d1, p0, p1, rfl, rfl, rfl, h0, h1⟩ := trodAll_two hA
  obtain ⟨rfl, rfl⟩ := trodVars_none hV
  clear hA0 hval0
  simp only [List.append_nil] at hW'
  have hlt : ∀ x ∈ p0 ++ (p1), x.block < W.heap.size := fun x hx => by first | simpa using hW'.lt x hx | simpa using hW'.lt x (by simpa using hx)
  refine (gmatchStars_open W base v0 v1 h0 h1 (hval 0 22 v0 rfl rfl) (hval 1 22 v1 rfl rfl) hsz hL).mono fun e W' ⟨he, hb⟩ => ?_
  subst he
  have e1 : Rows.gmatchStarsSpec.fn H ([d0, d1] ++ []) = { results := [.lit (.bool true)], args := [d0, d1] } := by simp [Rows.gmatchStarsSpec]
  refine ⟨_, rfl, _, _, _, [], p0 ++ (p1), [], hW', ?_, ?_, ?_, hb.frame _, fun h => by cases h⟩
  · rw [e1]; exact trodAll_mk1 (shut_bool Tryd.underlying4 true)
  · rw [e1]; exact trodAll_mk2 (Below.trod gmatchStars_laidOut (by kernel_rfl) (of_decide_eq_true (by kernel_rfl)) h0 hb (fun x hx => hlt x (by simp [hx]))) (Below.trod gmatchStars_laidOut (by kernel_rfl) (of_decide_eq_true (by kernel_rfl)) h1 hb (fun x hx => hlt x (by simp [hx])))
  · rw [e1]; rfl

theorem gmatchStars_said : Rows.GmatchStarsSaid :=
  OpenClaim.holds_of_wide 8 Tryd.f8 rfl rfl rfl rfl rfl rfl rfl ⟨rfl, rfl, rfl, rfl, rfl⟩ rfl rfl rfl rfl rfl (by kernel_rfl) Tryd.func8 (by kernel_rfl)
    (of_decide_eq_true (by kernel_rfl)) (by unfold Func.isWrapper; rw [if_neg (of_decide_eq_false (by kernel_rfl))]; exact ⟨rfl, rfl⟩)
    (fun os started H enc _ => gmatchStars_lifted os started H enc)

theorem gmatchStars_holds : Rows.GmatchStarsCardSaid :=
  Claim7.holds_tied_plain_at .later [] Rows.gmatchStarsCard.laidKinds true Rows.gmatchStarsCard.stood.harness Rows.gmatchStarsCard.stood.looks
    gmatchStars_said (fun _ h => by cases h) (by kernel_rfl) (fun _ h => by cases h) gmatchStars_row_tie rfl ⟨rfl, rfl⟩ (by kernel_rfl) rfl
    (fun f fn hf hfn => by
      obtain rfl : f = 8 := Option.some.inj ((show Tryd.prog.funcNamed "pidgin/pidginlaw7.GmatchStars" = some 8 by kernel_rfl).symm.trans hf) |>.symm
      obtain rfl : fn = Tryd.f8 := (Option.some.inj (Tryd.func8.symm.trans hfn)).symm
      exact ⟨by kernel_rfl, fun j t ht => by
        rw [Tryd.params8] at ht
        have hm : t ∈ [22, 22] := by simpa using Array.mem_of_getElem? ht
        have hall : ([22, 22].all fun u => !Tryd.prog.wantsStandIn u) = true := by kernel_rfl
        exact (show Tryd.prog.wantsStandIn t = false by simpa using List.all_eq_true.1 hall t hm)⟩)
    (by kernel_rfl)
#print axioms gmatchStars_holds
end Go.Proofs.YtopnckfmdjhbjaaDoor
