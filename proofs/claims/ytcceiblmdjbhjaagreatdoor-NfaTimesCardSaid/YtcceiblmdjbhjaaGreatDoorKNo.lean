/- KNo: several texts in one (kmerge.py). -/
import Derived.Test.YtcceiblmdjbhjaaGreatDoorKGt
import Derived.Test.YtcceiblmdjbhjaaGreatDoorKLi
import Derived.Test.YtcceiblmdjbhjaaGreatDoorKFs
import Derived.Test.YtcceiblmdjbhjaaGreatDoorScOpen
import Derived.Test.YtcceiblmdjbhjaaGreatDoorRows
/- NfaTimes: its walk (gen_nftm.py). -/
namespace Go.Proofs.YtcceiblmdjbhjaaGreatDoor
open Go.RowKit

theorem ofBys_appT (x y : List Int) : ofBys x ++ ofBys y = ofBys (x ++ y) := by
  apply bys_inj
  unfold ofBys bys
  simp [ByteArray.data_append]
theorem mod40 (i : Int) : -39 ≤ i.tmod 40 ∧ i.tmod 40 ≤ 39 := by
  have h1 := Int.tmod_lt_of_pos (-i) (show (0 : Int) < 40 by omega)
  have h2 := Int.tmod_lt_of_pos i (show (0 : Int) < 40 by omega)
  rw [Int.neg_tmod] at h1
  omega
theorem mod90 (i : Int) : -89 ≤ i.tmod 90 ∧ i.tmod 90 ≤ 89 := by
  have h1 := Int.tmod_lt_of_pos (-i) (show (0 : Int) < 90 by omega)
  have h2 := Int.tmod_lt_of_pos i (show (0 : Int) < 90 by omega)
  rw [Int.neg_tmod] at h1
  omega
theorem conv_at {X : World} {g : Nat} {c : Int} (hc : 0 ≤ c ∧ c ≤ 255) (h : X.heap[g]? = some (.cells #[.int .u8 c] 5 (0, 0))) : (convert 22 9 (.slice (some ⟨g, 0, none⟩) 1 1)).run Tryz.prog X = .ok (.string (ofBys [c])) X :=
  conv_string ⟨byt_ofR (by intro x hx; rw [List.mem_singleton.1 hx]; omega), by simp, Or.inr ⟨g, 0, 1, rfl, by simp, by decide, fun i hi => by
    have h1 : i < 1 := hi
    rw [Lib.cell_of_heap h, Nat.zero_add]
    match i, h1 with
    | 0, _ => rfl⟩⟩
theorem tm_byt {c : Int} (hc : 97 ≤ c ∧ c ≤ 122) {m k : Nat} (hm : m < 100) (hk : k < 100) : Byt (tmA c m k) ∧ Byt (tmB c m) := by
  have h1 := (dg_is hm).2.2.2.2
  have h2 := (dg_is hk).2.2.2.2
  constructor
  · refine byt_ofR fun x hx => ?_
    unfold tmA at hx
    simp only [List.mem_append, List.mem_cons, List.not_mem_nil, or_false] at hx
    rcases hx with ((rfl | rfl) | hx) | rfl | hx | rfl
    · omega
    · omega
    · have := h1 x hx; omega
    · omega
    · have := h2 x hx; omega
    · omega
  · refine byt_ofR fun x hx => ?_
    unfold tmB at hx
    simp only [List.mem_append, List.mem_cons, List.not_mem_nil, or_false] at hx
    rcases hx with ((rfl | rfl) | hx) | rfl | rfl
    · omega
    · omega
    · have := h1 x hx; omega
    · omega
    · omega
theorem no91 {l : List Int} (h : (91 : Int) ∉ l) (k : Nat) : ¬ l.getD k 0 = 91 := fun e => by
  by_cases hk : k < l.length
  · rw [List.getD_eq_getElem?_getD, List.getElem?_eq_getElem hk] at e
    exact h (e ▸ List.getElem_mem hk)
  · rw [List.getD_eq_getElem?_getD, List.getElem?_eq_none (by omega)] at e
    cases e
theorem tm_91 {c : Int} (hc : 97 ≤ c ∧ c ≤ 122) {m k : Nat} (hm : m < 100) (hk : k < 100) : (91 : Int) ∉ tmA c m k ∧ (91 : Int) ∉ tmB c m := by
  have h1 := (dg_is hm).2.2.2.2
  have h2 := (dg_is hk).2.2.2.2
  constructor
  · intro hx
    unfold tmA at hx
    simp only [List.mem_append, List.mem_cons, List.not_mem_nil, or_false] at hx
    rcases hx with ((hx | hx) | hx) | hx | hx | hx
    · omega
    · omega
    · have := h1 _ hx; omega
    · omega
    · have := h2 _ hx; omega
    · omega
  · intro hx
    unfold tmB at hx
    simp only [List.mem_append, List.mem_cons, List.not_mem_nil, or_false] at hx
    rcases hx with ((hx | hx) | hx) | hx | hx
    · omega
    · omega
    · have := h1 _ hx; omega
    · omega
    · omega
theorem tm_len {c : Int} {m k : Nat} (hm : m < 100) (hk : k < 100) : (tmA c m k).length ≤ 8 ∧ (tmB c m).length ≤ 8 := by
  have h1 := (dg_is hm).2.2.1
  have h2 := (dg_is hk).2.2.1
  unfold tmA tmB
  simp
  omega
def gR (tG : List St × Nat) (v : Value) (X : World) : Prop := ∃ B gb, v = .pointer (some ⟨gb, 0, none⟩) ∧ GrAt B gb tG.1 tG.2 X
theorem gR_below {tG : List St × Nat} {v : Value} {X X' : World} (h : gR tG v X) (hb : Below X.heap.size X X') : gR tG v X' := by
  obtain ⟨B, gb, e, hg⟩ := h
  exact ⟨B, gb, e, hg.below hb⟩
def bR (c : Int) (v : Value) (X : World) : Prop := ∃ g, v = .slice (some ⟨g, 0, none⟩) 1 1 ∧ X.heap[g]? = some (.cells #[.int .u8 c] 5 (0, 0))
theorem bR_below {c : Int} {v : Value} {X X' : World} (h : bR c v X) (hb : Below X.heap.size X X') : bR c v X' := by
  obtain ⟨g, e, hg⟩ := h
  exact ⟨g, e, blk_below hg hb⟩

set_option maxRecDepth 100000 in
set_option maxHeartbeats 32000000 in
theorem ntm_any (e : Nat → Addr) (i j z b : Int) (w : World) (hb : 0 ≤ b ∧ b ≤ 255) (he : Es w w.heap.size e) (ht : Ety w) :
    Calls Tryz.prog 10 #[.int .i64 i, .int .i64 j, .int .i64 z, .int .u8 b] w fun x w' => x = .returned (.bool true) ∧ Below w.heap.size w w' := by
  have HAW : Hid (∀ X, Below w.heap.size w X → Calls Tryz.prog 12 #[] X fun x w' => x = .returned (.bool true) ∧ Below X.heap.size X w') := Lib.hid (fun X hX => awake9_any e X ⟨(he.below hX).var, Nat.lt_of_lt_of_le he.low hX.size, Nat.le_refl _⟩ (ht.below hX))
  have HDG : Hid (∀ n, n < 100 → ∀ X, Calls Tryz.prog 28 #[.int .i64 (n : Nat)] X fun x w' => x = .returned (.string (ofBys (dg n))) ∧ Below X.heap.size X w') := Lib.hid (fun n hn X => digits_any n hn X)
  have HBA : Hid (∀ (c : Int) (m k : Nat), 97 ≤ c ∧ c ≤ 122 → m < 40 → k < 40 → ∀ X, Below w.heap.size w X → Calls Tryz.prog 24 #[.string (ofBys (tmA c m (m + k)))] X (BlQ (repN (m : Int) ((m + k : Nat) : Int) (litN c)) X)) := Lib.hid (fun c m k hc hm hk X hX => by
    have h1 := tm_byt hc (m := m) (k := m + k) (by omega) (by omega)
    have h2 := tm_91 hc (m := m) (k := m + k) (by omega) (by omega)
    have h3 := tm_len (c := c) (m := m) (k := m + k) (by omega) (by omega)
    have hbo : bys (ofBys (tmA c m (m + k))) = tmA c m (m + k) := bys_ofBys h1.1
    refine bld_ok (fun _ => (fun _ => false, false)) e _ (by rw [hbo]; exact bkC_none _ (no91 h2.1)) 5 _ (tmA c m (m + k)).length 0 X ⟨(he.below hX).var, Nat.lt_of_lt_of_le he.low hX.size, Nat.le_refl _⟩ (ht.below hX) (by rw [ofBys_size]; omega) (by rw [hbo]; exact parse_times _ (l := tmA c m (m + k)) rfl hc (itv_A c m (m + k) h1.1 (by omega) (by omega)) (Nat.le_trans h3.1 (by omega))) ?_
    have ew : (repN (m : Int) ((m + k : Nat) : Int) (litN c)).W = (if (((m + k : Nat) : Int)) < 0 then ((m : Int).toNat + 1) * 1 + 1 else (((m + k : Nat) : Int)).toNat * 1 + ((((m + k : Nat) : Int)).toNat - (m : Int).toNat)) := rfl
    rw [ew, if_neg (by omega)]
    omega)
  have HBB : Hid (∀ (c : Int) (m : Nat), 97 ≤ c ∧ c ≤ 122 → m < 40 → ∀ X, Below w.heap.size w X → Calls Tryz.prog 24 #[.string (ofBys (tmB c m))] X (BlQ (repN (m : Int) (-1) (litN c)) X)) := Lib.hid (fun c m hc hm X hX => by
    have h1 := tm_byt hc (m := m) (k := m) (by omega) (by omega)
    have h2 := tm_91 hc (m := m) (k := m) (by omega) (by omega)
    have h3 := tm_len (c := c) (m := m) (k := m) (by omega) (by omega)
    have hbo : bys (ofBys (tmB c m)) = tmB c m := bys_ofBys h1.2
    refine bld_ok (fun _ => (fun _ => false, false)) e _ (by rw [hbo]; exact bkC_none _ (no91 h2.2)) 5 _ (tmB c m).length 0 X ⟨(he.below hX).var, Nat.lt_of_lt_of_le he.low hX.size, Nat.le_refl _⟩ (ht.below hX) (by rw [ofBys_size]; omega) (by rw [hbo]; exact parse_times _ (l := tmB c m) rfl hc (itv_B c m h1.2 (by omega)) (Nat.le_trans h3.2 (by omega))) ?_
    have ew : (repN (m : Int) (-1) (litN c)).W = ((m : Int).toNat + 1) * 1 + 1 := rfl
    rw [ew]
    omega)
  have HAC : Hid (∀ (c : Int) (mn mx : Int), 0 ≤ c → 0 ≤ mn ∧ (mx = -1 ∨ mn ≤ mx) ∧ mn ≤ 255 ∧ mx ≤ 255 → ∀ B gb X v n, GrAt B gb (repN mn mx (litN c)).G.1 (repN mn mx (litN c)).G.2 X → Sl X v (List.replicate n c) → n ≤ 100 → Calls Tryz.prog 21 #[.pointer (some ⟨gb, 0, none⟩), v] X fun r w' => r = .returned (.bool (decide (mn ≤ (n : Int) ∧ (mx < 0 ∨ (n : Int) ≤ mx)))) ∧ Below X.heap.size X w') := Lib.hid (fun c mn mx hc h B gb X v n hg hs hn => by
    have hok := repN_ok c mn mx h
    have ew : (repN mn mx (litN c)).W = (if mx < 0 then (mn.toNat + 1) * 1 + 1 else mx.toNat * 1 + (mx.toNat - mn.toNat)) := rfl
    have hw : (repN mn mx (litN c)).W ≤ 1000 := by rw [ew]; split <;> omega
    have hlen : (repN mn mx (litN c)).G.1.length ≤ 1000000 := by have := Nd.lenB _ hok [.acc] 0; unfold Nd.G; simp at this; omega
    have := nacc_any B gb (repN mn mx (litN c)).G.2 (repN mn mx (litN c)).G.1 v (List.replicate n c) X (Nd.clG _ hok) hlen hg (Nd.g_start _ hok) hs (by rw [List.length_replicate]; omega)
    rw [rep_acc hc h n] at this
    exact this)
  have HIN : Hid (OwB w.heap.size (.slice none 0 0) [] w) := Lib.hid (ownsRow_nilG w)
  clear he ht
  unfold BlQ at HBA HBB
  have i12 := mod40 i
  have j12 := mod40 j
  have z12 := mod90 z
  obtain ⟨i1, i2⟩ := i12
  obtain ⟨j1, j2⟩ := j12
  obtain ⟨z1, z2⟩ := z12
  obtain ⟨b1, b2⟩ := hb
  obtain ⟨c, hcc, hcase⟩ : ∃ c : Int, (97 ≤ c ∧ c ≤ 122) ∧ ((97 ≤ b ∧ (b ≤ 122 ∧ ¬ 122 < b ∧ decide (122 < b) = false) ∧ c = b) ∨ (b < 97 ∧ c = 97) ∨ (97 ≤ b ∧ (122 < b ∧ decide (b < 97) = false ∧ decide (122 < b) = true) ∧ c = 97)) := by
    by_cases h1 : b < 97
    · exact ⟨97, by omega, Or.inr (Or.inl ⟨h1, rfl⟩)⟩
    · by_cases h2 : 122 < b
      · exact ⟨97, by omega, Or.inr (Or.inr ⟨by omega, ⟨h2, decide_eq_false h1, decide_eq_true h2⟩, rfl⟩)⟩
      · exact ⟨b, by omega, Or.inl ⟨by omega, ⟨by omega, h2, decide_eq_false h2⟩, rfl⟩⟩
  have HCC := Lib.hid hcc
  obtain ⟨c97, c122⟩ := hcc
  have hc0 : 0 ≤ c ∧ c ≤ 255 := by omega
  have HC0 := Lib.hid hc0
  rcases hcase with ⟨h1, ⟨h2, h3, h4⟩, hce⟩ | ⟨h1, hce⟩ | ⟨h1, ⟨h2, h3, h4⟩, hce⟩
  all_goals
    have HCQ := Lib.hid hce
    clear hce
    go_enter Tryz.func10, Tryz.ntmps10
    go_upto_region 2 with fail
    obtain ⟨m, hm⟩ : ∃ m : Nat, (i.tmod 40 + 40) % 40 = m := ⟨((i.tmod 40 + 40) % 40).toNat, by omega⟩
    obtain ⟨k, hk⟩ : ∃ k : Nat, (j.tmod 40 + 40) % 40 = k := ⟨((j.tmod 40 + 40) % 40).toNat, by omega⟩
    obtain ⟨n, hn⟩ : ∃ n : Nat, (z.tmod 90 + 90) % 90 = n := ⟨((z.tmod 90 + 90) % 90).toNat, by omega⟩
    have hm40 : m < 40 := by omega
    have hk40 : k < 40 := by omega
    have hn90 : n < 90 := by omega
    rw [hm, hk, hn]
    clear hm hk hn i1 i2 j1 j2 z1 z2
    go_upto_region 4 with fail
    try rw [← HCQ.out]
    go_upto_region 6 with fail
    go_loopg [9, 31] n (fun gh s9 s31 X => ∃ q : Nat, gh = n - q ∧ q ≤ n ∧ (∃ x y z, s9 = .slice x y z) ∧ s31 = .int .i64 (q : Nat) ∧ Aside (OwB w.heap.size s9 (List.replicate q c) X ∧ Below w.heap.size w X))
    case atStart => exact ⟨0, by omega, Nat.zero_le _, ⟨_, _, _, rfl⟩, rfl, HIN.out, Below.refl _ _⟩
    case round =>
      obtain ⟨q, hgh, hq, ⟨pa, pm, pc, rfl⟩, rfl, hal⟩ := hrel
      obtain ⟨how, hbk⟩ := hal.out
      have HGH := Lib.hid hgh
      have HBK := Lib.hid hbk
      clear hal hgh
      by_cases hlt : q < n
      · have hlti : (q : Int) < (n : Int) := by omega
        have hq0 : (0 : Int) ≤ (q : Int) := by omega
        have HAPP : Hid (OwB w.heap.size (.slice pa pm pc) (List.replicate q c) (wr.alloc (.cells #[.int .u8 c] 5))) := Lib.hid (how.below' ((Below.refl _ _).alloc (Nat.le_refl _) _))
        have HBK1 : Hid (Below w.heap.size w (wr.alloc (.cells #[.int .u8 c] 5))) := Lib.hid (HBK.out.alloc HBK.out.size _)
        have HGB : Hid ((wr.alloc (.cells #[.int .u8 c] 5)).heap[wr.heap.size]? = some (.cells #[.int .u8 c] 5 (0, 0))) := Lib.hid (alloc_last _ _)
        clear how hbk
        go_wp2_with (first | (refine app_byte9 rfl _ _ rfl w.heap.size _ (List.replicate q c) rfl HAPP.out c wr.heap.size rfl HGB.out (by rw [List.length_replicate]; omega) HBK1.out.size ?_; rintro v' w' hv' hb') | fail)
        obtain ⟨qa, qc, rfl⟩ := own_shapeR hv'
        have HV : Hid (OwB w.heap.size (.slice qa (List.replicate q c ++ [c]).length qc) (List.replicate (q + 1) c) w') := Lib.hid (by rw [List.replicate_succ']; exact hv')
        have HB' := Lib.hid (HBK1.out.trans hb')
        clear hv' hb'
        go_wp2_with fail
        go_roundg (n - (q + 1))
        case measure => have := HGH.out; omega
        case rel => exact ⟨q + 1, rfl, by omega, ⟨_, _, _, rfl⟩, by rw [Int.natCast_add]; rfl, HV.out, HB'.out⟩
      · have hlti : ¬ (q : Int) < (n : Int) := by omega
        obtain rfl : q = n := by omega
        have hsl := how.sl (by
          refine byt_ofR fun x hx => ?_
          rw [List.eq_of_mem_replicate hx]; omega) (by rw [List.length_replicate]; omega)
        have HSL := Lib.hid hsl
        have HBL : Hid (∀ X, Below wr.heap.size wr X → Below w.heap.size w X) := Lib.hid (fun X hX => HBK.out.trans (hX.mono HBK.out.size))
        have k3 : ofBys [c] ++ (⟨#[123]⟩ : ByteArray) = ofBys [c, 123] := ofBys_appT [c] [123]
        have k6 : ofBys [c, 123] ++ ofBys (dg m) = ofBys ([c, 123] ++ dg m) := ofBys_appT _ _
        have k7 : ofBys ([c, 123] ++ dg m) ++ (⟨#[44]⟩ : ByteArray) = ofBys ([c, 123] ++ dg m ++ [44]) := ofBys_appT _ [44]
        have k12 : ofBys ([c, 123] ++ dg m ++ [44]) ++ ofBys (dg (m + k)) = ofBys ([c, 123] ++ dg m ++ [44] ++ dg (m + k)) := ofBys_appT _ _
        have k13 : ofBys ([c, 123] ++ dg m ++ [44] ++ dg (m + k)) ++ (⟨#[125]⟩ : ByteArray) = ofBys (tmA c m (m + k)) := (ofBys_appT _ [125]).trans (congrArg ofBys (by unfold tmA; simp))
        have k17 : ofBys ([c, 123] ++ dg m) ++ (⟨#[44, 125]⟩ : ByteArray) = ofBys (tmB c m) := ofBys_appT _ [44, 125]
        have qm := (dg_is (n := m) (by omega)).2.2.1
        have qk := (dg_is (n := m + k) (by omega)).2.2.1
        have Z6 : Hid (¬ 9223372036854775807 < (ofBys [c, 123]).size + (ofBys (dg m)).size) := Lib.hid (by rw [ofBys_size, ofBys_size]; simp; omega)
        have Z7 : Hid (¬ 9223372036854775807 < (ofBys ([c, 123] ++ dg m)).size + 1) := Lib.hid (by rw [ofBys_size]; simp; omega)
        have Z12 : Hid (¬ 9223372036854775807 < (ofBys ([c, 123] ++ dg m ++ [44])).size + (ofBys (dg (m + k))).size) := Lib.hid (by rw [ofBys_size, ofBys_size]; simp; omega)
        have Z13 : Hid (¬ 9223372036854775807 < (ofBys ([c, 123] ++ dg m ++ [44] ++ dg (m + k))).size + 1) := Lib.hid (by rw [ofBys_size]; simp; omega)
        have Z17 : Hid (¬ 9223372036854775807 < (ofBys ([c, 123] ++ dg m)).size + 2) := Lib.hid (by rw [ofBys_size]; simp; omega)
        clear qm qk
        have HWR : Hid (IntKind.i64.wrap ((m : Int) + (k : Int)) = (m : Int) + (k : Int)) := Lib.hid (by simp [IntKind.wrap, IntKind.bits, IntKind.signed]; omega)
        have K3 := Lib.hid k3
        have K6 := Lib.hid k6
        have K7 := Lib.hid k7
        have K12 := Lib.hid k12
        have K13 := Lib.hid k13
        have K17 := Lib.hid k17
        clear how hbk hsl k3 k6 k7 k12 k13 k17
        generalize hd1 : dg m = dm at *
        generalize hd2 : dg (m + k) = dk at *
        generalize hs1 : [c, 123] ++ dm = l6 at *
        generalize hs2 : l6 ++ [44] = l7 at *
        generalize hs3 : l7 ++ dk = l12 at *
        go_upto_region 9 with fail
        refine Reg.wp_region_vals (fun X => Below wr.heap.size wr X) (fun j => ([some (.int .u8 c), none, some (.string (ofBys [c])), some (.string (ofBys [c, 123])), some (.int .i64 (m : Nat)), some (.string (ofBys dm)), some (.string (ofBys l6)), some (.string (ofBys l7)), some (.int .i64 (m : Nat)), some (.int .i64 (k : Nat)), some (.int .i64 ((m : Int) + (k : Int))), some (.string (ofBys dk)), some (.string (ofBys l12)), some (.string (ofBys (tmA c m (m + k)))), none, none] : List (Option Value)).getD j none) (fun j x X => (j = 1 → bR c x X) ∧ (j = 14 ∨ j = 15 → gR (repN (m : Int) ((m + k : Nat) : Int) (litN c)).G x X)) (by kernel_rfl) (by kernel_rfl) (by kernel_rfl) (by kernel_rfl) ?rs0 ?rsE ?rsZ
        case rs0 => exact (Below.refl _ _).drew
        case rsE =>
          refine Reg.EachV.plain rfl (fun T X hS hk K hK => ?_) ?_
          · skip
            have g3 : T[3]? = some (.int .u8 c) := hk.old 3 (by kernel_rfl) rfl
            have hK := hK _ X hS (Reg.Is.of_val rfl) (fun _ _ _ h => h)
            clear hk
            go_simp
            exact hK
          refine Reg.EachV.plain rfl (fun T X hS hk K hK => ?_) ?_
          · skip
            have g38 : T[38]? = some (.int .u8 c) := hk.val 0 38 (by kernel_rfl) (by kernel_rfl) rfl
            have hb : Below X.heap.size X (X.alloc (.cells #[.int .u8 c] 5)) := (Below.refl _ _).alloc (Nat.le_refl _) _
            have hK := hK (.slice (some ⟨X.heap.size, 0, none⟩) 1 1) (X.alloc (.cells #[.int .u8 c] 5)) (below_thn hS (Nat.le_refl _) hb) (Reg.Is.of_prop rfl ⟨fun _ => ⟨_, rfl, alloc_last _ _⟩, fun h => (by omega)⟩) (fun j x _ h => ⟨fun e => bR_below (h.1 e) hb, fun e => gR_below (h.2 e) hb⟩)
            clear hk
            go_simp
            exact hK
          refine Reg.EachV.plain rfl (fun T X hS hk K hK => ?_) ?_
          · skip
            obtain ⟨x39, g39, r39⟩ := hk.prop 1 39 (by kernel_rfl) (by kernel_rfl) rfl
            obtain ⟨g, rfl, hg⟩ := r39.1 rfl
            have hcv := conv_at HC0.out hg
            have hK := hK _ X hS (Reg.Is.of_val rfl) (fun _ _ _ h => h)
            clear hk
            go_simp
            exact hK
          refine Reg.EachV.plain rfl (fun T X hS hk K hK => ?_) ?_
          · skip
            have g40 : T[40]? = some (.string (ofBys [c])) := hk.val 2 40 (by kernel_rfl) (by kernel_rfl) rfl
            have kk := K3.out
            have hK := hK _ X hS (Reg.Is.of_val rfl) (fun _ _ _ h => h)
            clear hk
            go_simp
            exact hK
          refine Reg.EachV.plain rfl (fun T X hS hk K hK => ?_) ?_
          · skip
            have g0 : T[0]? = some (.int .i64 (m : Nat)) := hk.old 0 (by kernel_rfl) rfl
            have hK := hK _ X hS (Reg.Is.of_val rfl) (fun _ _ _ h => h)
            clear hk
            go_simp
            exact hK
          refine Reg.EachV.plain rfl (fun T X hS hk K hK => ?_) ?_
          · skip
            have g42 : T[42]? = some (.int .i64 (m : Nat)) := hk.val 4 42 (by kernel_rfl) (by kernel_rfl) rfl
            clear hk
            go_simp
            refine ((show Calls _ _ _ X (fun x w' => x = .returned (.string (ofBys dm)) ∧ Below X.heap.size X w') from hd1 ▸ HDG.out m (by omega) X)).mono ?_
            rintro e w1 ⟨rfl, hb⟩
            exact hK _ _ (below_thn hS (Nat.le_refl _) hb) (Reg.Is.of_val rfl) (fun j x _ h => ⟨fun e => bR_below (h.1 e) hb, fun e => gR_below (h.2 e) hb⟩)
          refine Reg.EachV.plain rfl (fun T X hS hk K hK => ?_) ?_
          · skip
            have g41 : T[41]? = some (.string (ofBys [c, 123])) := hk.val 3 41 (by kernel_rfl) (by kernel_rfl) rfl
            have g43 : T[43]? = some (.string (ofBys dm)) := hk.val 5 43 (by kernel_rfl) (by kernel_rfl) rfl
            have kk := K6.out
            have zz := Z6.out
            have hK := hK _ X hS (Reg.Is.of_val rfl) (fun _ _ _ h => h)
            clear hk
            go_simp
            exact hK
          refine Reg.EachV.plain rfl (fun T X hS hk K hK => ?_) ?_
          · skip
            have g44 : T[44]? = some (.string (ofBys l6)) := hk.val 6 44 (by kernel_rfl) (by kernel_rfl) rfl
            have kk := K7.out
            have zz := Z7.out
            have hK := hK _ X hS (Reg.Is.of_val rfl) (fun _ _ _ h => h)
            clear hk
            go_simp
            exact hK
          refine Reg.EachV.plain rfl (fun T X hS hk K hK => ?_) ?_
          · skip
            have g0 : T[0]? = some (.int .i64 (m : Nat)) := hk.old 0 (by kernel_rfl) rfl
            have hK := hK _ X hS (Reg.Is.of_val rfl) (fun _ _ _ h => h)
            clear hk
            go_simp
            exact hK
          refine Reg.EachV.plain rfl (fun T X hS hk K hK => ?_) ?_
          · skip
            have g1 : T[1]? = some (.int .i64 (k : Nat)) := hk.old 1 (by kernel_rfl) rfl
            have hK := hK _ X hS (Reg.Is.of_val rfl) (fun _ _ _ h => h)
            clear hk
            go_simp
            exact hK
          refine Reg.EachV.plain rfl (fun T X hS hk K hK => ?_) ?_
          · skip
            have g46 : T[46]? = some (.int .i64 (m : Nat)) := hk.val 8 46 (by kernel_rfl) (by kernel_rfl) rfl
            have g47 : T[47]? = some (.int .i64 (k : Nat)) := hk.val 9 47 (by kernel_rfl) (by kernel_rfl) rfl
            have yy := HWR.out
            have hK := hK _ X hS (Reg.Is.of_val rfl) (fun _ _ _ h => h)
            clear hk
            go_simp
            exact hK
          refine Reg.EachV.plain rfl (fun T X hS hk K hK => ?_) ?_
          · skip
            have g48 : T[48]? = some (.int .i64 ((m : Int) + (k : Int))) := hk.val 10 48 (by kernel_rfl) (by kernel_rfl) rfl
            clear hk
            go_simp
            refine ((show Calls _ _ #[.int .i64 ((m : Int) + (k : Int))] X (fun x w' => x = .returned (.string (ofBys dk)) ∧ Below X.heap.size X w') from hd2 ▸ HDG.out (m + k) (by omega) X)).mono ?_
            rintro e w1 ⟨rfl, hb⟩
            exact hK _ _ (below_thn hS (Nat.le_refl _) hb) (Reg.Is.of_val rfl) (fun j x _ h => ⟨fun e => bR_below (h.1 e) hb, fun e => gR_below (h.2 e) hb⟩)
          refine Reg.EachV.plain rfl (fun T X hS hk K hK => ?_) ?_
          · skip
            have g45 : T[45]? = some (.string (ofBys l7)) := hk.val 7 45 (by kernel_rfl) (by kernel_rfl) rfl
            have g49 : T[49]? = some (.string (ofBys dk)) := hk.val 11 49 (by kernel_rfl) (by kernel_rfl) rfl
            have kk := K12.out
            have zz := Z12.out
            have hK := hK _ X hS (Reg.Is.of_val rfl) (fun _ _ _ h => h)
            clear hk
            go_simp
            exact hK
          refine Reg.EachV.plain rfl (fun T X hS hk K hK => ?_) ?_
          · skip
            have g50 : T[50]? = some (.string (ofBys l12)) := hk.val 12 50 (by kernel_rfl) (by kernel_rfl) rfl
            have kk := K13.out
            have zz := Z13.out
            have hK := hK _ X hS (Reg.Is.of_val rfl) (fun _ _ _ h => h)
            clear hk
            go_simp
            exact hK
          refine Reg.EachV.plain rfl (fun T X hS hk K hK => ?_) ?_
          · skip
            have g51 : T[51]? = some (.string (ofBys (tmA c m (m + k)))) := hk.val 13 51 (by kernel_rfl) (by kernel_rfl) rfl
            clear hk
            go_simp
            refine (HBA.out c m k HCC.out hm40 hk40 X (HBL.out X hS)).mono ?_
            rintro e w1 ⟨B, gb, rfl, _, hg, hb⟩
            exact hK _ _ (below_thn hS (Nat.le_refl _) hb) (Reg.Is.of_prop rfl ⟨fun h => (by omega), fun _ => ⟨B, gb, rfl, hg⟩⟩) (fun j x _ h => ⟨fun e => bR_below (h.1 e) hb, fun e => gR_below (h.2 e) hb⟩)
          refine Reg.EachV.plain rfl (fun T X hS hk K hK => ?_) ?_
          · skip
            obtain ⟨x52, g52, r52⟩ := hk.prop 14 52 (by kernel_rfl) (by kernel_rfl) rfl
            have hK := hK x52 X hS (Reg.Is.of_prop rfl ⟨fun h => (by omega), fun _ => r52.2 (Or.inl rfl)⟩) (fun _ _ _ h => h)
            clear hk
            go_simp
            exact hK
          exact Reg.EachV.nil
        case rsZ =>
          intro u w1 hS hI
          have e0 : u 0 = .int .u8 c := (hI 0 (by decide)).val rfl
          have e1 := (hI 1 (by decide)).prop rfl
          have e2 : u 2 = .string (ofBys [c]) := (hI 2 (by decide)).val rfl
          have e3 : u 3 = .string (ofBys [c, 123]) := (hI 3 (by decide)).val rfl
          have e4 : u 4 = .int .i64 (m : Nat) := (hI 4 (by decide)).val rfl
          have e5 : u 5 = .string (ofBys dm) := (hI 5 (by decide)).val rfl
          have e6 : u 6 = .string (ofBys l6) := (hI 6 (by decide)).val rfl
          have e7 : u 7 = .string (ofBys l7) := (hI 7 (by decide)).val rfl
          have e8 : u 8 = .int .i64 (m : Nat) := (hI 8 (by decide)).val rfl
          have e9 : u 9 = .int .i64 (k : Nat) := (hI 9 (by decide)).val rfl
          have e10 : u 10 = .int .i64 ((m : Int) + (k : Int)) := (hI 10 (by decide)).val rfl
          have e11 : u 11 = .string (ofBys dk) := (hI 11 (by decide)).val rfl
          have e12 : u 12 = .string (ofBys l12) := (hI 12 (by decide)).val rfl
          have e13 : u 13 = .string (ofBys (tmA c m (m + k))) := (hI 13 (by decide)).val rfl
          have e14 := (hI 14 (by decide)).prop rfl
          have e15 := (hI 15 (by decide)).prop rfl
          clear hI
          simp only [Reg.putAll, Act.put, List.setIfInBounds_toArray, List.set_cons_succ, List.set_cons_zero, Nat.zero_add, Nat.reduceAdd, e0, e2, e3, e4, e5, e6, e7, e8, e9, e10, e11, e12, e13]
          clear e0 e2 e3 e4 e5 e6 e7 e8 e9 e10 e11 e12 e13
          obtain ⟨B1, gb1, h15, hg1⟩ := e15.2 (Or.inr rfl)
          rw [h15]
          have HG1 := Lib.hid hg1
          have HB9 := Lib.hid hS
          clear e1 e14 e15 hS hg1 h15
          generalize u 1 = u1x
          generalize u 14 = u14x
          obtain ⟨W9, hW9⟩ : ∃ W9, W9 = w1 := ⟨_, rfl⟩
          subst hW9
          go_upto_region 10 with fail
          refine Reg.wp_region_vals (fun X => Below W9.heap.size W9 X) (fun j => ([some (.int .u8 c), none, some (.string (ofBys [c])), some (.string (ofBys [c, 123])), some (.int .i64 (m : Nat)), some (.string (ofBys dm)), some (.string (ofBys l6)), some (.string (ofBys (tmB c m))), none, none] : List (Option Value)).getD j none) (fun j x X => (j = 1 → bR c x X) ∧ (j = 8 ∨ j = 9 → gR (repN (m : Int) (-1) (litN c)).G x X)) (by kernel_rfl) (by kernel_rfl) (by kernel_rfl) (by kernel_rfl) ?rs0 ?rsE ?rsZ
          case rs0 => exact (Below.refl _ _).drew
          case rsE =>
            refine Reg.EachV.plain rfl (fun T X hS hk K hK => ?_) ?_
            · skip
              have g3 : T[3]? = some (.int .u8 c) := hk.old 3 (by kernel_rfl) rfl
              have hK := hK _ X hS (Reg.Is.of_val rfl) (fun _ _ _ h => h)
              clear hk
              go_simp
              exact hK
            refine Reg.EachV.plain rfl (fun T X hS hk K hK => ?_) ?_
            · skip
              have g53 : T[53]? = some (.int .u8 c) := hk.val 0 53 (by kernel_rfl) (by kernel_rfl) rfl
              have hb : Below X.heap.size X (X.alloc (.cells #[.int .u8 c] 5)) := (Below.refl _ _).alloc (Nat.le_refl _) _
              have hK := hK (.slice (some ⟨X.heap.size, 0, none⟩) 1 1) (X.alloc (.cells #[.int .u8 c] 5)) (below_thn hS (Nat.le_refl _) hb) (Reg.Is.of_prop rfl ⟨fun _ => ⟨_, rfl, alloc_last _ _⟩, fun h => (by omega)⟩) (fun j x _ h => ⟨fun e => bR_below (h.1 e) hb, fun e => gR_below (h.2 e) hb⟩)
              clear hk
              go_simp
              exact hK
            refine Reg.EachV.plain rfl (fun T X hS hk K hK => ?_) ?_
            · skip
              obtain ⟨x54, g54, r54⟩ := hk.prop 1 54 (by kernel_rfl) (by kernel_rfl) rfl
              obtain ⟨g, rfl, hg⟩ := r54.1 rfl
              have hcv := conv_at HC0.out hg
              have hK := hK _ X hS (Reg.Is.of_val rfl) (fun _ _ _ h => h)
              clear hk
              go_simp
              exact hK
            refine Reg.EachV.plain rfl (fun T X hS hk K hK => ?_) ?_
            · skip
              have g55 : T[55]? = some (.string (ofBys [c])) := hk.val 2 55 (by kernel_rfl) (by kernel_rfl) rfl
              have kk := K3.out
              have hK := hK _ X hS (Reg.Is.of_val rfl) (fun _ _ _ h => h)
              clear hk
              go_simp
              exact hK
            refine Reg.EachV.plain rfl (fun T X hS hk K hK => ?_) ?_
            · skip
              have g0 : T[0]? = some (.int .i64 (m : Nat)) := hk.old 0 (by kernel_rfl) rfl
              have hK := hK _ X hS (Reg.Is.of_val rfl) (fun _ _ _ h => h)
              clear hk
              go_simp
              exact hK
            refine Reg.EachV.plain rfl (fun T X hS hk K hK => ?_) ?_
            · skip
              have g57 : T[57]? = some (.int .i64 (m : Nat)) := hk.val 4 57 (by kernel_rfl) (by kernel_rfl) rfl
              clear hk
              go_simp
              refine ((show Calls _ _ _ X (fun x w' => x = .returned (.string (ofBys dm)) ∧ Below X.heap.size X w') from hd1 ▸ HDG.out m (by omega) X)).mono ?_
              rintro e w1 ⟨rfl, hb⟩
              exact hK _ _ (below_thn hS (Nat.le_refl _) hb) (Reg.Is.of_val rfl) (fun j x _ h => ⟨fun e => bR_below (h.1 e) hb, fun e => gR_below (h.2 e) hb⟩)
            refine Reg.EachV.plain rfl (fun T X hS hk K hK => ?_) ?_
            · skip
              have g56 : T[56]? = some (.string (ofBys [c, 123])) := hk.val 3 56 (by kernel_rfl) (by kernel_rfl) rfl
              have g58 : T[58]? = some (.string (ofBys dm)) := hk.val 5 58 (by kernel_rfl) (by kernel_rfl) rfl
              have kk := K6.out
              have zz := Z6.out
              have hK := hK _ X hS (Reg.Is.of_val rfl) (fun _ _ _ h => h)
              clear hk
              go_simp
              exact hK
            refine Reg.EachV.plain rfl (fun T X hS hk K hK => ?_) ?_
            · skip
              have g59 : T[59]? = some (.string (ofBys l6)) := hk.val 6 59 (by kernel_rfl) (by kernel_rfl) rfl
              have kk := K17.out
              have zz := Z17.out
              have hK := hK _ X hS (Reg.Is.of_val rfl) (fun _ _ _ h => h)
              clear hk
              go_simp
              exact hK
            refine Reg.EachV.plain rfl (fun T X hS hk K hK => ?_) ?_
            · skip
              have g60 : T[60]? = some (.string (ofBys (tmB c m))) := hk.val 7 60 (by kernel_rfl) (by kernel_rfl) rfl
              clear hk
              go_simp
              refine (HBB.out c m HCC.out hm40 X (HBL.out X (HB9.out.trans (hS.mono HB9.out.size)))).mono ?_
              rintro e w1 ⟨B, gb, rfl, _, hg, hb⟩
              exact hK _ _ (below_thn hS (Nat.le_refl _) hb) (Reg.Is.of_prop rfl ⟨fun h => (by omega), fun _ => ⟨B, gb, rfl, hg⟩⟩) (fun j x _ h => ⟨fun e => bR_below (h.1 e) hb, fun e => gR_below (h.2 e) hb⟩)
            refine Reg.EachV.plain rfl (fun T X hS hk K hK => ?_) ?_
            · skip
              obtain ⟨x61, g61, r61⟩ := hk.prop 8 61 (by kernel_rfl) (by kernel_rfl) rfl
              have hK := hK x61 X hS (Reg.Is.of_prop rfl ⟨fun h => (by omega), fun _ => r61.2 (Or.inl rfl)⟩) (fun _ _ _ h => h)
              clear hk
              go_simp
              exact hK
            exact Reg.EachV.nil
          case rsZ =>
            intro u w1 hS hI
            have e0 : u 0 = .int .u8 c := (hI 0 (by decide)).val rfl
            have e1 := (hI 1 (by decide)).prop rfl
            have e2 : u 2 = .string (ofBys [c]) := (hI 2 (by decide)).val rfl
            have e3 : u 3 = .string (ofBys [c, 123]) := (hI 3 (by decide)).val rfl
            have e4 : u 4 = .int .i64 (m : Nat) := (hI 4 (by decide)).val rfl
            have e5 : u 5 = .string (ofBys dm) := (hI 5 (by decide)).val rfl
            have e6 : u 6 = .string (ofBys l6) := (hI 6 (by decide)).val rfl
            have e7 : u 7 = .string (ofBys (tmB c m)) := (hI 7 (by decide)).val rfl
            have e8 := (hI 8 (by decide)).prop rfl
            have e9 := (hI 9 (by decide)).prop rfl
            clear hI
            simp only [Reg.putAll, Act.put, List.setIfInBounds_toArray, List.set_cons_succ, List.set_cons_zero, Nat.zero_add, Nat.reduceAdd, e0, e2, e3, e4, e5, e6, e7]
            clear e0 e2 e3 e4 e5 e6 e7
            obtain ⟨B2, gb2, h9, hg2⟩ := e9.2 (Or.inr rfl)
            rw [h9]
            have HG2 := Lib.hid hg2
            have HB10 := Lib.hid hS
            have HSA := Lib.hid ((HSL.out.below HB9.out).below hS)
            have HX1 := Lib.hid (HAC.out c (m : Int) ((m + k : Nat) : Int) HC0.out.1 ⟨by omega, Or.inr (by omega), by omega, by omega⟩ B1 gb1 w1 _ q (HG1.out.below hS) HSA.out (by omega))
            have HBX := Lib.hid (HBL.out w1 (HB9.out.trans (hS.mono HB9.out.size)))
            clear e1 e8 e9 hS hg2 h9
            generalize u 1 = u1y
            generalize u 8 = u8y
            go_wp2_with fail
            refine HX1.out.mono ?_
            rintro x w2 ⟨rfl, hb2⟩
            have HB2 := Lib.hid (HBX.out.trans (hb2.mono HBX.out.size))
            have HX2 := Lib.hid (HAC.out c (m : Int) (-1) HC0.out.1 ⟨by omega, Or.inl rfl, by omega, by omega⟩ B2 gb2 w2 _ q (HG2.out.below hb2) (HSA.out.below hb2) (by omega))
            clear hb2
            rcases (by omega : q < m ∨ (m ≤ q ∧ q ≤ m + k) ∨ (m ≤ q ∧ m + k < q)) with h | ⟨h, h'⟩ | ⟨h, h'⟩
            · have e1 : decide ((m : Int) ≤ (q : Int) ∧ (((m + k : Nat) : Int) < 0 ∨ (q : Int) ≤ ((m + k : Nat) : Int))) = false := by first | exact decide_eq_true (by omega) | exact decide_eq_false (by omega)
              have e2 : decide ((m : Int) ≤ (q : Int) ∧ ((-1 : Int) < 0 ∨ (q : Int) ≤ -1)) = false := by first | exact decide_eq_true (by omega) | exact decide_eq_false (by omega)
              rw [e1]
              rw [e2] at HX2
              have f1 : ¬ (m : Int) ≤ (q : Int) := by omega
              have f3 : ¬ m ≤ q := by omega
              go_wp2_with fail
              refine HX2.out.mono ?_
              rintro x w3 ⟨rfl, hb3⟩
              have HB3 := Lib.hid (HB2.out.trans (hb3.mono HB2.out.size))
              clear hb3
              go_wp2_with fail
              refine (HAW.out w3 HB3.out).mono ?_
              rintro x w4 ⟨rfl, hb4⟩
              have HB4 := Lib.hid (HB3.out.trans (hb4.mono HB3.out.size))
              clear hb4
              go_wp2
              go_ret
              exact ⟨rfl, HB4.out⟩
            · have e1 : decide ((m : Int) ≤ (q : Int) ∧ (((m + k : Nat) : Int) < 0 ∨ (q : Int) ≤ ((m + k : Nat) : Int))) = true := by first | exact decide_eq_true (by omega) | exact decide_eq_false (by omega)
              have e2 : decide ((m : Int) ≤ (q : Int) ∧ ((-1 : Int) < 0 ∨ (q : Int) ≤ -1)) = true := by first | exact decide_eq_true (by omega) | exact decide_eq_false (by omega)
              rw [e1]
              rw [e2] at HX2
              have f1 : (m : Int) ≤ (q : Int) := by omega
              have f2 : (q : Int) ≤ (m : Int) + (k : Int) := by omega
              have f3 : q ≤ m + k := by omega
              go_wp2_with fail
              refine HX2.out.mono ?_
              rintro x w3 ⟨rfl, hb3⟩
              have HB3 := Lib.hid (HB2.out.trans (hb3.mono HB2.out.size))
              clear hb3
              go_wp2_with fail
              refine (HAW.out w3 HB3.out).mono ?_
              rintro x w4 ⟨rfl, hb4⟩
              have HB4 := Lib.hid (HB3.out.trans (hb4.mono HB3.out.size))
              clear hb4
              go_wp2
              go_ret
              exact ⟨rfl, HB4.out⟩
            · have e1 : decide ((m : Int) ≤ (q : Int) ∧ (((m + k : Nat) : Int) < 0 ∨ (q : Int) ≤ ((m + k : Nat) : Int))) = false := by first | exact decide_eq_true (by omega) | exact decide_eq_false (by omega)
              have e2 : decide ((m : Int) ≤ (q : Int) ∧ ((-1 : Int) < 0 ∨ (q : Int) ≤ -1)) = true := by first | exact decide_eq_true (by omega) | exact decide_eq_false (by omega)
              rw [e1]
              rw [e2] at HX2
              have f1 : (m : Int) ≤ (q : Int) := by omega
              have f2 : ¬ (q : Int) ≤ (m : Int) + (k : Int) := by omega
              have f3 : ¬ q ≤ m + k := by omega
              have f4 : decide ((q : Int) ≤ (m : Int) + (k : Int)) = false := decide_eq_false f2
              have f5 : decide (q ≤ m + k) = false := decide_eq_false f3
              go_wp2_with fail
              refine HX2.out.mono ?_
              rintro x w3 ⟨rfl, hb3⟩
              have HB3 := Lib.hid (HB2.out.trans (hb3.mono HB2.out.size))
              clear hb3
              go_wp2_with fail
              refine (HAW.out w3 HB3.out).mono ?_
              rintro x w4 ⟨rfl, hb4⟩
              have HB4 := Lib.hid (HB3.out.trans (hb4.mono HB3.out.size))
              clear hb4
              go_wp2
              go_ret
              exact ⟨rfl, HB4.out⟩
end Go.Proofs.YtcceiblmdjbhjaaGreatDoor
/- NfaTimes: its walk, opened. -/
namespace Go.Proofs.YtcceiblmdjbhjaaGreatDoor
open Go.RowKit

set_option maxRecDepth 100000 in
theorem nfaTimes_open {H : Type} {enc : TypeId × Value → H} {d0 d1 d2 d3 : DataW H} {p0 p1 p2 p3 : List MemPlace} {q : Prop} (W : World) (base : Nat) (v0 v1 v2 v3 : Value)
    (h0 : DataW.Trod enc Tryz.prog W 0 (fun _ => true) true 3 v0 d0 p0) (h1 : DataW.Trod enc Tryz.prog W 0 (fun _ => true) true 3 v1 d1 p1) (h2 : DataW.Trod enc Tryz.prog W 0 (fun _ => true) true 3 v2 d2 p2) (h3 : DataW.Trod enc Tryz.prog W 0 (fun _ => true) true 5 v3 d3 p3)
    (k0 : Value.okWide Tryz.prog W .any base 3 v0) (k1 : Value.okWide Tryz.prog W .any base 3 v1) (k2 : Value.okWide Tryz.prog W .any base 3 v2) (k3 : Value.okWide Tryz.prog W .any base 5 v3) (_ : q)
    (hL : laidMetH Tryz.prog Rows.nfaTimesRow.laid W) :
    Calls Tryz.prog 10 #[v0, v1, v2, v3] W fun e W' => e = .returned (.bool true) ∧ Below W.heap.size W W' := by
  obtain ⟨i, rfl, rfl, rfl, _⟩ := ChangeShapes.open_int Tryz.underlying3 k0 h0
  obtain ⟨j, rfl, rfl, rfl, _⟩ := ChangeShapes.open_int Tryz.underlying3 k1 h1
  obtain ⟨z, rfl, rfl, rfl, _⟩ := ChangeShapes.open_int Tryz.underlying3 k2 h2
  obtain ⟨b, rfl, rfl, rfl, wb⟩ := ChangeShapes.open_int Tryz.underlying5 k3 h3
  obtain ⟨s, hsn⟩ := snt_of_laid2 (by kernel_rfl) (by kernel_rfl) hL
  refine ntm_any s i j z b W (byte_wf wb) ⟨hsn.var, ?_, Nat.le_refl _⟩ hsn.ety
  have a := World.block_lt_of_cell? _ _ (hsn.var 21 (by omega) (by omega))
  have b := World.block_lt_of_cell? _ _ hsn.ety
  simp at a b
  omega
end Go.Proofs.YtcceiblmdjbhjaaGreatDoor
