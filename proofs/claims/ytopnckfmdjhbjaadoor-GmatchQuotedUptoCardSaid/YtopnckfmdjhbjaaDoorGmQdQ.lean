/- Proved here: for any two texts that are together of bulk at most 1048576, the first one quoted, read as a pattern, matches the first and no other. Conditions: the arguments' bulk; the sentinels' variables and the listed table read as the row lists them, which the tie gives. -/
import Derived.Test.YtopnckfmdjhbjaaDoorGmM4
import Derived.Test.YtopnckfmdjhbjaaDoorSeOf
import Derived.Test.YtopnckfmdjhbjaaDoorGlPar
import Derived.Test.YtopnckfmdjhbjaaDoorSeOpn
import Derived.Test.YtopnckfmdjhbjaaDoorFaSents
import Derived.Test.YtopnckfmdjhbjaaDoorRows
import Derived.LaidSub
import Derived.MakeChecks
import Derived.Test.YtopnckfmdjhbjaaDoorCards
import Derived.Test.YtopnckfmdjhbjaaDoorTie
import Derived.Lay
import Derived.Deep.DeepHandedRow
import Derived.SizedLaws
import Derived.ProofKit
import Derived.LaidMore
import Derived.Stop.Joined
import Derived.Carry
/- The contract of Quote (gen_quote.py). -/
namespace Go.Proofs.YtopnckfmdjhbjaaDoor
open Go.RowKit

def sgnP (c : Nat) : Bool := sgn (c : Int)
theorem sgn_mem : SV (mem (bys ⟨#[42, 63, 91, 92]⟩)) = SV sgnP := SV_congr fun c _ => by
  have e : bys ⟨#[42, 63, 91, 92]⟩ = [42, 63, 91, 92] := by kernel_rfl
  unfold mem sgnP sgn
  rw [e, Bool.eq_iff_iff]
  simp
theorem take_next (s : ByteArray) (k : Nat) (h : k < s.size) : (bys s).take (k + 1) = (bys s).take k ++ [(s[k].toNat : Int)] := by
  have hl : k < (bys s).length := by rw [bys_length]; exact h
  rw [List.take_succ_eq_append_getElem hl]
  congr 2
  have := bys_getD s k h
  rwa [List.getD_eq_getElem?_getD, List.getElem?_eq_getElem hl, Option.getD_some] at this
/-- The loop's state. -/
structure QuI (w : World) (b : Nat) (s : ByteArray) (k : Nat) (v : Value) (X : World) : Prop where
  hk : k ≤ s.size
  bel : Below w.heap.size w X
  ge : w.heap.size ≤ b
  set : X.heap[b]? = some (.cells #[.int .u64 (sw sgnP 0 : Nat), .int .u64 (sw sgnP 1 : Nat), .int .u64 (sw sgnP 2 : Nat), .int .u64 (sw sgnP 3 : Nat)] 53 (0, 0))
  own : X.ownsRow w.heap.size 5 1 v (quoteL ((bys s).take k)).length ((quoteL ((bys s).take k)).map (Value.int .u8))

set_option maxRecDepth 100000 in
set_option maxHeartbeats 8000000 in
theorem quote_any (s : ByteArray) (w : World) (hs : s.size ≤ 1048576) :
    Calls Tryd.prog 28 #[.string s] w fun e w' => e = .returned (.string (ofBys (quoteL (bys s)))) ∧ Below w.heap.size w w' := by
  obtain ⟨i0, hi, hz0, hz1, hz2⟩ := info_parts byte_row
  have HO : Hid (Calls Tryd.prog 49 #[.string ⟨#[42, 63, 91, 92]⟩] w fun e w' => e = .returned (.agg #[.int .u64 (sw sgnP 0 : Nat), .int .u64 (sw sgnP 1 : Nat), .int .u64 (sw sgnP 2 : Nat), .int .u64 (sw sgnP 3 : Nat)]) ∧ Below w.heap.size w w') := Lib.hid (by have := of_any ⟨#[42, 63, 91, 92]⟩ w (by decide); rw [sgn_mem] at this; exact this)
  go_enter Tryd.func28, Tryd.ntmps28
  go_wp2_with fail
  refine HO.out.mono ?_
  rintro e w1 ⟨rfl, hb1⟩
  have HI0 : Hid (QuI w w1.heap.size s 0 (.slice none 0 0) (w1.alloc (.cells #[.int .u64 (sw sgnP 0 : Nat), .int .u64 (sw sgnP 1 : Nat), .int .u64 (sw sgnP 2 : Nat), .int .u64 (sw sgnP 3 : Nat)] 53))) := Lib.hid ⟨Nat.zero_le _, hb1.alloc hb1.size _, hb1.size, alloc_last w1 _, World.ownsRow_nil _ _ _ _⟩
  clear hb1
  go_wp2_with fail
  go_loopw [4, 9] (fun v i X => ∃ k : Nat, i = .int .i64 k ∧ QuI w w1.heap.size s k v X) (fun _ i _ => s.size - (intOf i).toNat)
  case atStart => exact ⟨0, rfl, HI0.out⟩
  case round =>
    obtain ⟨k, rfl, hI⟩ := hrel
    have HI := Lib.hid hI
    have hk := hI.hk
    have hql := quoteL_len ((bys s).take k)
    rw [List.length_take, bys_length] at hql
    have hqb : (quoteL ((bys s).take k)).length ≤ 2097152 := by omega
    obtain ⟨a0, cap0, hv0⟩ := own_shapeK hI.own
    clear hI hql
    subst hv0
    by_cases hlt : k < s.size
    · have hkI : (k : Int) < (s.size : Int) := by omega
      have HTN : Hid (quoteL ((bys s).take (k + 1)) = quoteL ((bys s).take k) ++ q1 (s[k].toNat : Int)) := Lib.hid (by rw [take_next s k hlt, quoteL_snoc])
      have hc256 : s[k].toNat < 256 := s[k].toNat_lt
      obtain ⟨c, hc⟩ : ∃ c, c = s[k].toNat := ⟨_, rfl⟩
      have HH : ∀ X, Hid (Calls Tryd.prog 50 #[.agg #[.int .u64 (sw sgnP 0 : Nat), .int .u64 (sw sgnP 1 : Nat), .int .u64 (sw sgnP 2 : Nat), .int .u64 (sw sgnP 3 : Nat)], .int .u8 (c : Nat)] X fun e w' => e = .returned (.bool (sgnP c)) ∧ Below X.heap.size X w') := fun X => Lib.hid (has_any sgnP c (by omega) X)
      have HCC := Lib.hid hc
      rw [← hc] at HTN hc256
      clear hc
      have hat : s[k].toNat = c := HCC.out.symm
      have hcw : ∀ X, (Instr.index 9 (.string s) (.int .i64 (k : Nat))).run Tryd.prog X = .ok (.int .u8 (c : Nat)) X := fun X => by rw [← hat]; simp [go_sem, hkI]
      go_wp2_with fail
      refine Reg.wp_region_vals (fun X => QuI w w1.heap.size s k (.slice a0 (quoteL ((bys s).take k)).length cap0) X) (fun j => ([some (.agg #[.int .u64 (sw sgnP 0 : Nat), .int .u64 (sw sgnP 1 : Nat), .int .u64 (sw sgnP 2 : Nat), .int .u64 (sw sgnP 3 : Nat)]), some (.string s), some (.int .i64 (k : Nat)), some (.int .u8 (c : Nat)), some (.bool (sgnP c))] : List (Option Value)).getD j none) (fun _ _ _ => True) (by kernel_rfl) (by kernel_rfl) (by kernel_rfl) (by kernel_rfl) ?rs0 ?rsE ?rsZ
      case rs0 => exact ⟨HI.out.hk, HI.out.bel.drew, HI.out.ge, HI.out.set, HI.out.own⟩
      case rsE =>
        refine Reg.EachV.plain rfl (fun T X hS hk K hK => ?_) ?_
        · skip
          have g3 : T[3]? = some (.pointer (some ⟨w1.heap.size, 0, none⟩)) := hk.old 3 (by kernel_rfl) rfl
          obtain ⟨⟨c0, c1, c2, c3⟩, _, hbz⟩ := cells4 hS.set
          have hK := hK _ X hS (Reg.Is.of_val rfl) (fun _ _ _ h => h)
          clear hk
          go_simp
          exact hK
        refine Reg.EachV.plain rfl (fun T X hS hk K hK => ?_) ?_
        · skip
          have g0 : T[0]? = some (.string s) := hk.old 0 (by kernel_rfl) rfl
          have hK := hK _ X hS (Reg.Is.of_val rfl) (fun _ _ _ h => h)
          clear hk
          go_simp
          exact hK
        refine Reg.EachV.plain rfl (fun T X hS hk K hK => ?_) ?_
        · skip
          have g5 : T[5]? = some (.int .i64 (k : Nat)) := hk.old 5 (by kernel_rfl) rfl
          have hK := hK _ X hS (Reg.Is.of_val rfl) (fun _ _ _ h => h)
          clear hk
          go_simp
          exact hK
        refine Reg.EachV.plain rfl (fun T X hS hk K hK => ?_) ?_
        · skip
          have g13 : T[13]? = some (.string s) := hk.val 1 13 (by kernel_rfl) (by kernel_rfl) rfl
          have g14 : T[14]? = some (.int .i64 (k : Nat)) := hk.val 2 14 (by kernel_rfl) (by kernel_rfl) rfl
          have hK := hK _ X hS (Reg.Is.of_val rfl) (fun _ _ _ h => h)
          clear hk
          go_simp
          exact hK
        refine Reg.EachV.plain rfl (fun T X hS hk K hK => ?_) ?_
        · skip
          have g12 : T[12]? = some (.agg #[.int .u64 (sw sgnP 0 : Nat), .int .u64 (sw sgnP 1 : Nat), .int .u64 (sw sgnP 2 : Nat), .int .u64 (sw sgnP 3 : Nat)]) := hk.val 0 12 (by kernel_rfl) (by kernel_rfl) rfl
          have g15 : T[15]? = some (.int .u8 (c : Nat)) := hk.val 3 15 (by kernel_rfl) (by kernel_rfl) rfl
          clear hk
          go_simp
          refine ((HH _).out).mono ?_
          rintro e wz ⟨rfl, hb⟩
          exact hK _ _ (⟨hS.hk, below_thn hS.bel (Nat.le_refl _) hb, hS.ge, blk_below hS.set hb, own_drop hS.own hb⟩) (Reg.Is.of_val rfl) (fun _ _ _ h => h)
        exact Reg.EachV.nil
      case rsZ =>
        intro u w2 hS hI
        have e0 : u 0 = .agg #[.int .u64 (sw sgnP 0 : Nat), .int .u64 (sw sgnP 1 : Nat), .int .u64 (sw sgnP 2 : Nat), .int .u64 (sw sgnP 3 : Nat)] := (hI 0 (by decide)).val rfl
        have e1 : u 1 = .string s := (hI 1 (by decide)).val rfl
        have e2 : u 2 = .int .i64 (k : Nat) := (hI 2 (by decide)).val rfl
        have e3 : u 3 = .int .u8 (c : Nat) := (hI 3 (by decide)).val rfl
        have e4 : u 4 = .bool (sgnP c) := (hI 4 (by decide)).val rfl
        clear hI
        simp only [Reg.putAll, Act.put, List.setIfInBounds_toArray, List.set_cons_succ, List.set_cons_zero, Nat.zero_add, Nat.reduceAdd, e0, e1, e2, e3, e4]
        clear e0 e1 e2 e3 e4
        have HX2 := Lib.hid hS
        clear hS
        cases hsg : sgnP c with
        | true =>
          have HQ1 : Hid (q1 (c : Int) = [92, (c : Int)]) := Lib.hid (by unfold q1; rw [if_pos (show sgn (c : Int) = true from hsg)])
          have HBa := Lib.hid HX2.out.bel
          go_wp2_with (at_builtin; refine wpList_append_own _ rfl _ _ 22 rfl w.heap.size 5 i0 (.int .u8 0) 1 1 Tryd.underlying22 hi hz0 hz1 hz2 rfl (by decide) _ _ _ rfl (HX2.out.own.alloc _) ⟨w2.heap.size, 0, none⟩ 1 1 [.int .u8 92] rfl rfl ?c1 ?c2 ?c3 ?c4 ?c5 ?_)
          case c1 =>
            intro j u hj
            match j, hj with
            | 0, hj => simp at hj; subst hj; simp [Addr.add]
          case c2 => intro u hu; simp at hu; subst hu; rfl
          case c3 => unfold maxLen; simp; omega
          case c4 => simp; omega
          case c5 => have := HBa.out.size; simp; omega
          intro v' w3 hown' hgr _
          have HB3 : Hid (Below w.heap.size w w3) := Lib.hid ((HX2.out.bel.alloc HX2.out.bel.size _).grown hgr (by have := HX2.out.bel.size; simp; omega) (fun j hj => (HX2.out.own.lt j hj).1))
          have HS3 : Hid (w3.heap[w1.heap.size]? = some (.cells #[.int .u64 (sw sgnP 0 : Nat), .int .u64 (sw sgnP 1 : Nat), .int .u64 (sw sgnP 2 : Nat), .int .u64 (sw sgnP 3 : Nat)] 53 (0, 0))) := Lib.hid (blk_grown (blk_alloc HX2.out.set _) hgr (own_neK HX2.out.own HX2.out.set (by decide)))
          have HO3 : Hid (w3.ownsRow w.heap.size 5 1 v' ((quoteL ((bys s).take k)).length + 1) ((quoteL ((bys s).take k)).map (Value.int .u8) ++ [.int .u8 92])) := Lib.hid hown'
          obtain ⟨a3, cap3, hv3⟩ := own_shapeK HO3.out
          clear hown' hgr hsg
          subst hv3
          go_wp2_with (at_builtin; refine wpList_append_own _ rfl _ _ 22 rfl w.heap.size 5 i0 (.int .u8 0) 1 1 Tryd.underlying22 hi hz0 hz1 hz2 rfl (by decide) _ _ _ rfl (HO3.out.alloc _) ⟨w3.heap.size, 0, none⟩ 1 1 [.int .u8 (c : Int)] rfl rfl ?c1 ?c2 ?c3 ?c4 ?c5 ?_)
          case c1 =>
            intro j u hj
            match j, hj with
            | 0, hj => simp at hj; subst hj; simp [Addr.add]
          case c2 => intro u hu; simp at hu; subst hu; rfl
          case c3 => unfold maxLen; simp; omega
          case c4 => simp; omega
          case c5 => have := HB3.out.size; simp; omega
          intro v' w4 hown' hgr _
          have HN : Hid (QuI w w1.heap.size s (k + 1) v' w4) := Lib.hid ⟨by omega, (HB3.out.alloc HB3.out.size _).grown hgr (by have := HB3.out.size; simp; omega) (fun j hj => (HO3.out.lt j hj).1), HX2.out.ge, blk_grown (blk_alloc HS3.out _) hgr (own_neK HO3.out HS3.out (by decide)), by rw [HTN.out, HQ1.out, List.length_append, List.map_append]; simpa using hown'⟩
          clear hown' hgr
          go_wp2
          exact ⟨⟨k + 1, by go_num, HN.out⟩, by simp [intOf]; omega⟩
        | false =>
          have HQ1 : Hid (q1 (c : Int) = [(c : Int)]) := Lib.hid (by unfold q1; rw [if_neg (by intro h; unfold sgnP at hsg; rw [h] at hsg; cases hsg)])
          have HBa := Lib.hid HX2.out.bel
          clear hsg
          go_wp2_with (at_builtin; refine wpList_append_own _ rfl _ _ 22 rfl w.heap.size 5 i0 (.int .u8 0) 1 1 Tryd.underlying22 hi hz0 hz1 hz2 rfl (by decide) _ _ _ rfl (HX2.out.own.alloc _) ⟨w2.heap.size, 0, none⟩ 1 1 [.int .u8 (c : Int)] rfl rfl ?c1 ?c2 ?c3 ?c4 ?c5 ?_)
          case c1 =>
            intro j u hj
            match j, hj with
            | 0, hj => simp at hj; subst hj; simp [Addr.add]
          case c2 => intro u hu; simp at hu; subst hu; rfl
          case c3 => unfold maxLen; simp; omega
          case c4 => simp; omega
          case c5 => have := HBa.out.size; simp; omega
          intro v' w4 hown' hgr _
          have HN : Hid (QuI w w1.heap.size s (k + 1) v' w4) := Lib.hid ⟨by omega, (HX2.out.bel.alloc HX2.out.bel.size _).grown hgr (by have := HX2.out.bel.size; simp; omega) (fun j hj => (HX2.out.own.lt j hj).1), HX2.out.ge, blk_grown (blk_alloc HX2.out.set _) hgr (own_neK HX2.out.own HX2.out.set (by decide)), by rw [HTN.out, HQ1.out, List.length_append, List.map_append]; exact hown'⟩
          clear hown' hgr
          go_wp2
          exact ⟨⟨k + 1, by go_num, HN.out⟩, by simp [intOf]; omega⟩
    · have hke : k = s.size := by omega
      have HQ : Hid (quoteL ((bys s).take k) = quoteL (bys s)) := Lib.hid (by rw [List.take_of_length_le (by rw [bys_length]; omega)])
      have HSL : Hid (Sl wr (.slice a0 (quoteL ((bys s).take k)).length cap0) (quoteL ((bys s).take k))) := Lib.hid (slOwnedM HI.out.own (by rw [HQ.out]; exact quote_byt (bys_byt s)) (by omega))
      have hcv := conv_string HSL.out
      clear hke
      go_wp2
      go_ret
      exact ⟨by rw [← HQ.out]; rfl, HI.out.bel⟩
end Go.Proofs.YtopnckfmdjhbjaaDoor
/- From the row's condition to what stage 7's walks want. -/
namespace Go.Proofs.YtopnckfmdjhbjaaDoor
open Go.RowKit

def sentKeep (x : String × DataW Unit) : Bool := (sentNames.map (·.1)).contains x.1
def tabKeep (x : String × DataW Unit) : Bool := x.1 == "math/bits.deBruijn64tab"
theorem gm_of_laid {W : World} {L : List (String × DataW Unit)} (h1 : L.filter tabKeep = [("math/bits.deBruijn64tab", Lib.tabData .u8 bruijnZ)]) (h2 : L.filter sentKeep = sentNames.map sd) (h : laidMetH Tryd.prog L W) :
    ∃ e, Es W W.heap.size e ∧ TZ W := by
  have h' := laidMetH.filter sentKeep h
  rw [h2, MakeChecks.laidMetH_plain _ _ _ (by kernel_rfl)] at h'
  obtain ⟨sl, _, hv⟩ := sents_vars h'
  have h3 := laidMetH.filter tabKeep h
  rw [h1, MakeChecks.laidMetH_plain _ _ _ (by kernel_rfl)] at h3
  have hT := tz_of_head h3
  refine ⟨fun k => sl.getD (k - 1) ⟨0, 0, none⟩, ⟨hv, ?_, Nat.le_refl _⟩, hT⟩
  have a := World.block_lt_of_cell? _ _ (hv 21 (by omega) (by omega))
  have b := World.block_lt_of_cell? _ _ (hT 0 (by decide))
  simp at a b
  omega
end Go.Proofs.YtopnckfmdjhbjaaDoor
/- GmatchQuoted: its walk, opened. -/
namespace Go.Proofs.YtopnckfmdjhbjaaDoor
open Go.RowKit

theorem quoted_any (cf : ByteArray → (Nat → Bool) × Bool) (s t : ByteArray) : mtc (glP cf (quoteL (bys s))) (bys t) = decide (bys t = bys s) := by
  rw [glP_quote]
  apply bool_iff
  rw [mtc_iff, quoted_iff _ _ (fun c hc => (byt_mem (bys_byt s) hc).1) (fun c hc => (byt_mem (bys_byt t) hc).1), decide_eq_true_eq]
theorem str_same (s t : ByteArray) : (s.toList == t.toList) = decide (bys t = bys s) := by
  rw [Bool.eq_iff_iff]
  simp only [beq_iff_eq, decide_eq_true_eq, ByteArray.toList_eq]
  constructor
  · intro e
    have : s = t := by
      have : s.data = t.data := Array.toList_inj.1 e
      cases hx : s; cases hy : t; rw [hx, hy] at this; simp only at this; rw [this]
    rw [this]
  · intro e; rw [bys_inj e]

set_option maxRecDepth 100000 in
set_option maxHeartbeats 8000000 in
theorem gquoted_any (cf : ByteArray → (Nat → Bool) × Bool) (hcf : ClassOk cf) (e : Nat → Addr) (s t : ByteArray) (hss : s.size ≤ 1048576) (hts : t.size ≤ 1048576) (w : World) (he : Es w w.heap.size e) (hT : TZ w) :
    Calls Tryd.prog 10 #[.string s, .string t] w fun x w' => x = .returned (.bool true) ∧ Below w.heap.size w w' := by
  have hes : ∀ X, Below w.heap.size w X → Es X X.heap.size e := fun X hX => ⟨(he.below hX).var, Nat.lt_of_lt_of_le he.low hX.size, Nat.le_refl _⟩
  have HA : Hid (∀ X, Below w.heap.size w X → Calls Tryd.prog 16 #[] X fun x w' => x = .returned (.bool true) ∧ Below X.heap.size X w') := Lib.hid fun X hX => awake7_any cf hcf e X (hes X hX) (hT.below hX)
  have HQ := Lib.hid (quote_any s w hss)
  have hqz : (ofBys (quoteL (bys s))).size = (quoteL (bys s)).length := ofBys_size _
  have HQB : Hid (bys (ofBys (quoteL (bys s))) = quoteL (bys s)) := Lib.hid (bys_ofBys (quote_byt (bys_byt s)))
  have hql := quoteL_len (bys s)
  rw [bys_length] at hql
  have hqm : (ofBys (quoteL (bys s))).size ≤ 2097152 := by omega
  have HR : Hid (∀ (X : World) (v : Value), Below w.heap.size w X → Sl X v (quoteL (bys s)) → (quoteL (bys s)).length ≤ 256 → Calls Tryd.prog 13 #[v] X fun x w' => ∃ b, x = .returned (.pointer (some ⟨b, 0, none⟩)) ∧ PatAt X.heap.size b (glP cf (quoteL (bys s))) w' ∧ Below X.heap.size X w') := Lib.hid fun X v hX hv hl => read_ok cf hcf e v _ X (hes X hX) (hT.below hX) hv hl
  have HM : Hid (∀ (u : ByteArray) (v : Value) (B b : Nat) (X : World), u.size ≤ 1048576 → (quoteL (bys s)).length ≤ 256 → Below w.heap.size w X → Sl X v (bys u) → PatAt B b (glP cf (quoteL (bys s))) X → Calls Tryd.prog 15 #[.pointer (some ⟨b, 0, none⟩), v] X fun x w' => x = .returned (.bool (decide (bys u = bys s))) ∧ Below X.heap.size X w') := Lib.hid fun u v B b X hu hl hX hv hp => by
    have h3 := glP_len cf (quoteL (bys s))
    have := match_any (bys u) _ v B b X (hT.below hX) hv (by rw [bys_length]; omega) hp (by omega)
    rw [quoted_any] at this
    exact this
  have hse := str_same s t
  generalize hQ : ofBys (quoteL (bys s)) = q at *
  have HQS : Hid (q.size = (quoteL (bys s)).length) := Lib.hid hqz
  obtain ⟨r, hr⟩ : ∃ r, r = decide (bys t = bys s) := ⟨_, rfl⟩
  rw [← hr] at hse
  have HRE := Lib.hid hr
  clear he hT hcf hes hqz hql hQ hr
  go_enter Tryd.func10, Tryd.ntmps10
  go_wp2_with fail
  refine HQ.out.mono ?_
  rintro x w1 ⟨rfl, hb1⟩
  have HB1 := Lib.hid hb1
  clear hb1
  by_cases h256 : q.size ≤ 256
  · have h256I : (q.size : Int) ≤ 256 := by omega
    have hq256 : (quoteL (bys s)).length ≤ 256 := by rw [← HQS.out]; exact h256
    have HQ256 := Lib.hid hq256
    obtain ⟨qc, W2, hcv, hsl2, hb2⟩ := conv_sl w1 q (by omega)
    have HB2 := Lib.hid (below_thn HB1.out (Nat.le_refl _) hb2)
    rw [HQB.out] at hsl2
    have HR2 := Lib.hid (HR.out W2 _ HB2.out hsl2 hq256)
    clear hsl2 hb2 hq256
    go_wp2_with fail
    refine HR2.out.mono ?_
    rintro x w3 ⟨b, rfl, hp3, hb3⟩
    have HP3 := Lib.hid hp3
    have HB3 := Lib.hid (below_thn HB2.out (Nat.le_refl _) hb3)
    clear hb3 hp3 hcv
    obtain ⟨sc, W4, hcv, hsl4, hb4⟩ := conv_sl w3 s (by omega)
    have HB4 := Lib.hid (below_thn HB3.out (Nat.le_refl _) hb4)
    have HP4 := Lib.hid (HP3.out.next hb4)
    have hm4 := HM.out s _ _ b W4 hss HQ256.out HB4.out hsl4 HP4.out
    rw [decide_eq_true (rfl : bys s = bys s)] at hm4
    have HM4 := Lib.hid hm4
    clear hsl4 hb4 hm4
    go_wp2_with fail
    refine HM4.out.mono ?_
    rintro x w5 ⟨rfl, hb5⟩
    have HB5 := Lib.hid (below_thn HB4.out (Nat.le_refl _) hb5)
    have HP5 := Lib.hid (HP4.out.next hb5)
    clear hb5 hcv
    obtain ⟨tc, W6, hcv, hsl6, hb6⟩ := conv_sl w5 t (by omega)
    have HB6 := Lib.hid (below_thn HB5.out (Nat.le_refl _) hb6)
    have hm6 := HM.out t _ _ b W6 hts HQ256.out HB6.out hsl6 (HP5.out.next hb6)
    rw [← HRE.out] at hm6
    have HM6 := Lib.hid hm6
    clear hsl6 hb6 hm6
    go_wp2_with fail
    refine HM6.out.mono ?_
    rintro x w7 ⟨rfl, hb7⟩
    have HB7 := Lib.hid (below_thn HB6.out (Nat.le_refl _) hb7)
    clear hb7 hcv
    cases r
    all_goals
      go_wp2_with fail
      refine (HA.out _ HB7.out).mono ?_
      rintro x w8 ⟨rfl, hb8⟩
      have HB8 := Lib.hid (below_thn HB7.out (Nat.le_refl _) hb8)
      clear hb8
      go_wp2
      go_ret
      exact ⟨rfl, HB8.out⟩
  · have h256I : (256 : Int) < (q.size : Int) := by omega
    clear h256
    go_wp2_with fail
    refine (HA.out _ HB1.out).mono ?_
    rintro x w8 ⟨rfl, hb8⟩
    have HB8 := Lib.hid (below_thn HB1.out (Nat.le_refl _) hb8)
    clear hb8
    go_wp2
    go_ret
    exact ⟨rfl, HB8.out⟩

set_option maxRecDepth 100000 in
theorem gmatchQuoted_open {H : Type} {enc : TypeId × Value → H} {d0 d1 : DataW H} {p0 p1 : List MemPlace} {q : Prop} (W : World) (base : Nat) (v0 v1 : Value)
    (h0 : DataW.Trod enc Tryd.prog W 0 (fun _ => true) true 9 v0 d0 p0) (h1 : DataW.Trod enc Tryd.prog W 0 (fun _ => true) true 9 v1 d1 p1)
    (k0 : Value.okWide Tryd.prog W .any base 9 v0) (k1 : Value.okWide Tryd.prog W .any base 9 v1) (_ : q)
    (hk : Rows.uptoSmall H [d0, d1] = true) (hL : laidMetH Tryd.prog Rows.gmatchQuotedUptoRow.laid W) :
    Calls Tryd.prog 10 #[v0, v1] W fun e W' => e = .returned (.bool true) ∧ Below W.heap.size W W' := by
  obtain ⟨s, rfl, rfl, _, _⟩ := Go.ChangeMaps.open_string Tryd.underlying9 k0 h0
  obtain ⟨t, rfl, rfl, _, _⟩ := Go.ChangeMaps.open_string Tryd.underlying9 k1 h1
  obtain ⟨e, he, hT⟩ := gm_of_laid (by kernel_rfl) (by kernel_rfl) hL
  obtain ⟨cf, hcf⟩ := classes_ok
  have hb : Rows.uptoBulkAll [DataW.lit (H := H) (.string s.data.toList), DataW.lit (H := H) (.string t.data.toList)] ≤ 1048576 := of_decide_eq_true hk
  simp only [Rows.uptoBulkAll, Rows.uptoBulk] at hb
  have hss : s.data.toList.length = s.size := by simp
  have hts : t.data.toList.length = t.size := by simp
  exact gquoted_any cf hcf e s t (by omega) (by omega) W he hT
end Go.Proofs.YtopnckfmdjhbjaaDoor
namespace Go.Proofs.YtopnckfmdjhbjaaDoor
open Go.ChangeShapes Go.WideShapes Go.ChangeAt Go.RowKit

theorem gmatchQuoted_own : ownKnob Tryd.prog.godebug = none := by kernel_rfl
theorem gmatchQuoted_laidOut : laidOutB Tryd.prog = true := by kernel_rfl

set_option maxRecDepth 100000 in
theorem gmatchQuoted_reads (os : Os) {H : Type} (enc : TypeId × Value → H) : ∃ places, DataW.whole enc Tryd.prog ((World.laidAll Tryd.prog os Rows.gmatchQuotedUptoRow.laid).forCall (fun _ _ => 0) ⟨#[], #[.string ⟨#[]⟩, .string ⟨#[]⟩], []⟩).memory Tryd.f10.params.toList Rows.gmatchQuotedSpec.vars false #[.string ⟨#[]⟩, .string ⟨#[]⟩].toList 8 = some ([.lit (.string []), .lit (.string [])], [], places) :=
  ⟨[], by kernel_rfl⟩
set_option maxRecDepth 100000 in
theorem gmatchQuoted_lifted (os : Os) (started : os.Started) (H : Type) (enc : TypeId × Value → H) (F : Stop.Interp) :
    ReturnsInHanded {} Tryd.checked os 10 .any ((Rows.OpenSpec.upto Rows.gmatchQuotedSpec).preRow enc Tryd.prog Tryd.f10 Rows.gmatchQuotedUptoRow.domain false Rows.gmatchQuotedUptoRow.laid) (((Rows.OpenSpec.upto Rows.gmatchQuotedSpec).at F).post enc Tryd.prog Tryd.f10 false true false false) := by
  obtain ⟨places, hx⟩ := gmatchQuoted_reads os enc
  refine returnsInHanded_of_row (C := Tryd.checked) (s := Rows.OpenSpec.upto Rows.gmatchQuotedSpec) gmatchQuoted_own started (by kernel_rfl) Tryd.func10
    ⟨(World.laidAll Tryd.prog os Rows.gmatchQuotedUptoRow.laid), fun _ _ => 0, ⟨#[], #[.string ⟨#[]⟩, .string ⟨#[]⟩], []⟩, World.laidAll_os _ _ _, (World.shaped_of_ZipB (by kernel_rfl) (by kernel_rfl)), rfl, (Input.okWide_of_okWideB (by kernel_rfl)).2,
      OpenSpec.preRow_of_cond 8 hx (by kernel_rfl) (fun k hk => by cases hk; kernel_rfl) (by kernel_rfl) (by rw [MakeChecks.laidMetH_plain _ _ _ (by kernel_rfl)]; exact laidMet_laidAll _ (by kernel_rfl) (by kernel_rfl)), by
      simp only [Assume.holds]
      exact ⟨by simp, by simp, fun _ => Modest.zero, by simp, by simp⟩⟩ ?_
  intro W base args ds gs before hval0 hW _ hcond hsz0 hL _ _
  have hk0 := hcond _ rfl
  show Calls Tryd.prog 10 args W fun e W' => ∃ v, e = .returned v ∧ Rows.gmatchQuotedSpec.post enc Tryd.prog Tryd.f10 false true false false W args v W'
  have hval : ∀ (j : Nat) t v, Tryd.f10.params[j]? = some t → args[j]? = some v → Value.okWide Tryd.prog W .any base t v := hval0
  have hsz : (DataW.weightsEach Tryd.prog (Tryd.f10.params.toList ++ Rows.gmatchQuotedSpec.plain.varTypes Tryd.prog) (ds ++ gs)).all (· ≤ reachBytes) = true := hsz0
  clear hsz0
  have hW' := hW
  obtain ⟨p, q, hA0, hV, rfl, hfz, hnd⟩ := hW
  have hA : DataW.TrodAll enc Tryd.prog W 0 (fun _ => true) true Tryd.f10.params.toList args.toList ds p := hA0
  rw [Tryd.params10] at hA hval hsz
  obtain ⟨v0, v1, d0, d1, p0, p1, rfl, rfl, rfl, h0, h1⟩ := trodAll_two hA
  obtain ⟨rfl, rfl⟩ := trodVars_none hV
  clear hA0 hval0
  simp only [List.append_nil] at hW'
  have hlt : ∀ x ∈ p0 ++ (p1), x.block < W.heap.size := fun x hx => by first | simpa using hW'.lt x hx | simpa using hW'.lt x (by simpa using hx)
  simp only [List.append_nil] at hk0
  refine (gmatchQuoted_open W base v0 v1 h0 h1 (hval 0 9 v0 rfl rfl) (hval 1 9 v1 rfl rfl) hsz hk0 hL).mono fun e W' ⟨he, hb⟩ => ?_
  subst he
  have e1 : Rows.gmatchQuotedSpec.fn H ([d0, d1] ++ []) = { results := [.lit (.bool true)], args := [d0, d1] } := by simp [Rows.gmatchQuotedSpec]
  refine ⟨_, rfl, _, _, _, [], p0 ++ (p1), [], hW', ?_, ?_, ?_, hb.frame _, fun h => by cases h⟩
  · rw [e1]; exact trodAll_mk1 (shut_bool Tryd.underlying4 true)
  · rw [e1]; exact trodAll_mk2 (Below.trod gmatchQuoted_laidOut (by kernel_rfl) (of_decide_eq_true (by kernel_rfl)) h0 hb (fun x hx => hlt x (by simp [hx]))) (Below.trod gmatchQuoted_laidOut (by kernel_rfl) (of_decide_eq_true (by kernel_rfl)) h1 hb (fun x hx => hlt x (by simp [hx])))
  · rw [e1]; rfl

theorem gmatchQuoted_said : Rows.GmatchQuotedUptoSaid :=
  OpenClaim.holds_of_cond 10 Tryd.f10 rfl rfl rfl rfl rfl rfl rfl ⟨rfl, rfl, rfl, rfl, rfl⟩ rfl rfl rfl rfl rfl (by kernel_rfl) Tryd.func10 (by kernel_rfl)
    (of_decide_eq_true (by kernel_rfl)) (by unfold Func.isWrapper; rw [if_neg (of_decide_eq_false (by kernel_rfl))]; exact ⟨rfl, rfl⟩)
    (fun os started H enc _ F => by rw [OpenClaim.pre_eq_preRow]; exact gmatchQuoted_lifted os started H enc F)

theorem gmatchQuoted_holds : Rows.GmatchQuotedUptoCardSaid :=
  Claim7.holds_tied_plain_at .later [] Rows.gmatchQuotedUptoCard.laidKinds true Rows.gmatchQuotedUptoCard.stood.harness Rows.gmatchQuotedUptoCard.stood.looks
    gmatchQuoted_said (fun _ h => by cases h) (by kernel_rfl) (fun _ h => by cases h) gmatchQuotedUpto_row_tie rfl ⟨rfl, rfl⟩ (by kernel_rfl) rfl
    (fun f fn hf hfn => by
      obtain rfl : f = 10 := Option.some.inj ((show Tryd.prog.funcNamed "pidgin/pidginlaw7.GmatchQuoted" = some 10 by kernel_rfl).symm.trans hf) |>.symm
      obtain rfl : fn = Tryd.f10 := (Option.some.inj (Tryd.func10.symm.trans hfn)).symm
      exact ⟨by kernel_rfl, fun j t ht => by
        rw [Tryd.params10] at ht
        have hm : t ∈ [9, 9] := by simpa using Array.mem_of_getElem? ht
        have hall : ([9, 9].all fun u => !Tryd.prog.wantsStandIn u) = true := by kernel_rfl
        exact (show Tryd.prog.wantsStandIn t = false by simpa using List.all_eq_true.1 hall t hm)⟩)
    (by kernel_rfl)
#print axioms gmatchQuoted_holds
end Go.Proofs.YtopnckfmdjhbjaaDoor
