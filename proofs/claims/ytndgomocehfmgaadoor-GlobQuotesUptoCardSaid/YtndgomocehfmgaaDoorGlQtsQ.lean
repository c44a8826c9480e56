/- Proved here: for any text and any bytes that are together of bulk at most 1048576 the statement that a quoted text, read as a pattern, is that text, and that no pattern has more pieces than bytes, answers true, and its arguments read as before. Conditions: the arguments' bulk; the sentinels' variables and the listed tables read as the row lists them, which the tie gives. -/
import Derived.Test.YtndgomocehfmgaaDoorGlM3
import Derived.Test.YtndgomocehfmgaaDoorSeOf
import Derived.Test.YtndgomocehfmgaaDoorGlO
import Derived.Test.YtndgomocehfmgaaDoorSlB
import Derived.Lib.SliceRun
import Derived.Test.YtndgomocehfmgaaDoorRows
import Derived.Test.YtndgomocehfmgaaDoorCards
import Derived.Test.YtndgomocehfmgaaDoorTie
import Derived.Lay
import Derived.MakeChecks
import Derived.Deep.DeepHandedRow
import Derived.SizedLaws
import Derived.ProofKit
import Derived.LaidMore
import Derived.Stop.Joined
import Derived.Carry
/- The contract of Quote (gen_quote.py). -/
namespace Go.Proofs.YtndgomocehfmgaaDoor
open Go.RowKit

def sgnP (c : Nat) : Bool := sgn (c : Int)
theorem sgn_mem : SV (mem (bys ⟨#[42, 63, 91, 92]⟩)) = SV sgnP := SV_congr fun c _ => by
  have e : bys ⟨#[42, 63, 91, 92]⟩ = [42, 63, 91, 92] := by kernel_rfl
  unfold mem sgnP sgn
  rw [e, Bool.eq_iff_iff]
  simp
theorem take_next (s : ByteArray) (k : Nat) (h : k < s.size) : (bys s).take (k + 1) = (bys s).take k ++ [(s[k].toNat : Int)] := by
  have hl : k < (bys s).length := by rw [bys_length]; exact h
  rw [List.take_succ_eq_append_getElem hl]
  congr 2
  have := bys_getD s k h
  rwa [List.getD_eq_getElem?_getD, List.getElem?_eq_getElem hl, Option.getD_some] at this
/-- The loop's state. -/
structure QuI (w : World) (b : Nat) (s : ByteArray) (k : Nat) (v : Value) (X : World) : Prop where
  hk : k ≤ s.size
  bel : Below w.heap.size w X
  ge : w.heap.size ≤ b
  set : X.heap[b]? = some (.cells #[.int .u64 (sw sgnP 0 : Nat), .int .u64 (sw sgnP 1 : Nat), .int .u64 (sw sgnP 2 : Nat), .int .u64 (sw sgnP 3 : Nat)] 24 (0, 0))
  own : X.ownsRow w.heap.size 5 1 v (quoteL ((bys s).take k)).length ((quoteL ((bys s).take k)).map (Value.int .u8))

set_option maxRecDepth 100000 in
set_option maxHeartbeats 8000000 in
theorem quote_any (s : ByteArray) (w : World) (hs : s.size ≤ 1048576) :
    Calls Tryd.prog 25 #[.string s] w fun e w' => e = .returned (.string (ofBys (quoteL (bys s)))) ∧ Below w.heap.size w w' := by
  obtain ⟨i0, hi, hz0, hz1, hz2⟩ := info_parts byte_row
  have HO : Hid (Calls Tryd.prog 20 #[.string ⟨#[42, 63, 91, 92]⟩] w fun e w' => e = .returned (.agg #[.int .u64 (sw sgnP 0 : Nat), .int .u64 (sw sgnP 1 : Nat), .int .u64 (sw sgnP 2 : Nat), .int .u64 (sw sgnP 3 : Nat)]) ∧ Below w.heap.size w w') := Lib.hid (by have := of_any ⟨#[42, 63, 91, 92]⟩ w (by decide); rw [sgn_mem] at this; exact this)
  go_enter Tryd.func25, Tryd.ntmps25
  go_wp2_with fail
  refine HO.out.mono ?_
  rintro e w1 ⟨rfl, hb1⟩
  have HI0 : Hid (QuI w w1.heap.size s 0 (.slice none 0 0) (w1.alloc (.cells #[.int .u64 (sw sgnP 0 : Nat), .int .u64 (sw sgnP 1 : Nat), .int .u64 (sw sgnP 2 : Nat), .int .u64 (sw sgnP 3 : Nat)] 24))) := Lib.hid ⟨Nat.zero_le _, hb1.alloc hb1.size _, hb1.size, alloc_last w1 _, World.ownsRow_nil _ _ _ _⟩
  clear hb1
  go_wp2_with fail
  go_loopw [4, 9] (fun v i X => ∃ k : Nat, i = .int .i64 k ∧ QuI w w1.heap.size s k v X) (fun _ i _ => s.size - (intOf i).toNat)
  case atStart => exact ⟨0, rfl, HI0.out⟩
  case round =>
    obtain ⟨k, rfl, hI⟩ := hrel
    have HI := Lib.hid hI
    have hk := hI.hk
    have hql := quoteL_len ((bys s).take k)
    rw [List.length_take, bys_length] at hql
    have hqb : (quoteL ((bys s).take k)).length ≤ 2097152 := by omega
    obtain ⟨a0, cap0, hv0⟩ := own_shapeK hI.own
    clear hI hql
    subst hv0
    by_cases hlt : k < s.size
    · have hkI : (k : Int) < (s.size : Int) := by omega
      have HTN : Hid (quoteL ((bys s).take (k + 1)) = quoteL ((bys s).take k) ++ q1 (s[k].toNat : Int)) := Lib.hid (by rw [take_next s k hlt, quoteL_snoc])
      have hc256 : s[k].toNat < 256 := s[k].toNat_lt
      obtain ⟨c, hc⟩ : ∃ c, c = s[k].toNat := ⟨_, rfl⟩
      have HH : ∀ X, Hid (Calls Tryd.prog 53 #[.agg #[.int .u64 (sw sgnP 0 : Nat), .int .u64 (sw sgnP 1 : Nat), .int .u64 (sw sgnP 2 : Nat), .int .u64 (sw sgnP 3 : Nat)], .int .u8 (c : Nat)] X fun e w' => e = .returned (.bool (sgnP c)) ∧ Below X.heap.size X w') := fun X => Lib.hid (has_any sgnP c (by omega) X)
      have HCC := Lib.hid hc
      rw [← hc] at HTN hc256
      clear hc
      have hat : s[k].toNat = c := HCC.out.symm
      have hcw : ∀ X, (Instr.index 9 (.string s) (.int .i64 (k : Nat))).run Tryd.prog X = .ok (.int .u8 (c : Nat)) X := fun X => by rw [← hat]; simp [go_sem, hkI]
      go_wp2_with fail
      refine Reg.wp_region_vals (fun X => QuI w w1.heap.size s k (.slice a0 (quoteL ((bys s).take k)).length cap0) X) (fun j => ([some (.agg #[.int .u64 (sw sgnP 0 : Nat), .int .u64 (sw sgnP 1 : Nat), .int .u64 (sw sgnP 2 : Nat), .int .u64 (sw sgnP 3 : Nat)]), some (.string s), some (.int .i64 (k : Nat)), some (.int .u8 (c : Nat)), some (.bool (sgnP c))] : List (Option Value)).getD j none) (fun _ _ _ => True) (by kernel_rfl) (by kernel_rfl) (by kernel_rfl) (by kernel_rfl) ?rs0 ?rsE ?rsZ
      case rs0 => exact ⟨HI.out.hk, HI.out.bel.drew, HI.out.ge, HI.out.set, HI.out.own⟩
      case rsE =>
        refine Reg.EachV.plain rfl (fun T X hS hk K hK => ?_) ?_
        · skip
          have g3 : T[3]? = some (.pointer (some ⟨w1.heap.size, 0, none⟩)) := hk.old 3 (by kernel_rfl) rfl
          obtain ⟨⟨c0, c1, c2, c3⟩, _, hbz⟩ := cells4 hS.set
          have hK := hK _ X hS (Reg.Is.of_val rfl) (fun _ _ _ h => h)
          clear hk
          go_simp
          exact hK
        refine Reg.EachV.plain rfl (fun T X hS hk K hK => ?_) ?_
        · skip
          have g0 : T[0]? = some (.string s) := hk.old 0 (by kernel_rfl) rfl
          have hK := hK _ X hS (Reg.Is.of_val rfl) (fun _ _ _ h => h)
          clear hk
          go_simp
          exact hK
        refine Reg.EachV.plain rfl (fun T X hS hk K hK => ?_) ?_
        · skip
          have g5 : T[5]? = some (.int .i64 (k : Nat)) := hk.old 5 (by kernel_rfl) rfl
          have hK := hK _ X hS (Reg.Is.of_val rfl) (fun _ _ _ h => h)
          clear hk
          go_simp
          exact hK
        refine Reg.EachV.plain rfl (fun T X hS hk K hK => ?_) ?_
        · skip
          have g13 : T[13]? = some (.string s) := hk.val 1 13 (by kernel_rfl) (by kernel_rfl) rfl
          have g14 : T[14]? = some (.int .i64 (k : Nat)) := hk.val 2 14 (by kernel_rfl) (by kernel_rfl) rfl
          have hK := hK _ X hS (Reg.Is.of_val rfl) (fun _ _ _ h => h)
          clear hk
          go_simp
          exact hK
        refine Reg.EachV.plain rfl (fun T X hS hk K hK => ?_) ?_
        · skip
          have g12 : T[12]? = some (.agg #[.int .u64 (sw sgnP 0 : Nat), .int .u64 (sw sgnP 1 : Nat), .int .u64 (sw sgnP 2 : Nat), .int .u64 (sw sgnP 3 : Nat)]) := hk.val 0 12 (by kernel_rfl) (by kernel_rfl) rfl
          have g15 : T[15]? = some (.int .u8 (c : Nat)) := hk.val 3 15 (by kernel_rfl) (by kernel_rfl) rfl
          clear hk
          go_simp
          refine ((HH _).out).mono ?_
          rintro e wz ⟨rfl, hb⟩
          exact hK _ _ (⟨hS.hk, below_thn hS.bel (Nat.le_refl _) hb, hS.ge, blk_below hS.set hb, own_drop hS.own hb⟩) (Reg.Is.of_val rfl) (fun _ _ _ h => h)
        exact Reg.EachV.nil
      case rsZ =>
        intro u w2 hS hI
        have e0 : u 0 = .agg #[.int .u64 (sw sgnP 0 : Nat), .int .u64 (sw sgnP 1 : Nat), .int .u64 (sw sgnP 2 : Nat), .int .u64 (sw sgnP 3 : Nat)] := (hI 0 (by decide)).val rfl
        have e1 : u 1 = .string s := (hI 1 (by decide)).val rfl
        have e2 : u 2 = .int .i64 (k : Nat) := (hI 2 (by decide)).val rfl
        have e3 : u 3 = .int .u8 (c : Nat) := (hI 3 (by decide)).val rfl
        have e4 : u 4 = .bool (sgnP c) := (hI 4 (by decide)).val rfl
        clear hI
        simp only [Reg.putAll, Act.put, List.setIfInBounds_toArray, List.set_cons_succ, List.set_cons_zero, Nat.zero_add, Nat.reduceAdd, e0, e1, e2, e3, e4]
        clear e0 e1 e2 e3 e4
        have HX2 := Lib.hid hS
        clear hS
        cases hsg : sgnP c with
        | true =>
          have HQ1 : Hid (q1 (c : Int) = [92, (c : Int)]) := Lib.hid (by unfold q1; rw [if_pos (show sgn (c : Int) = true from hsg)])
          have HBa := Lib.hid HX2.out.bel
          go_wp2_with (at_builtin; refine wpList_append_own _ rfl _ _ 28 rfl w.heap.size 5 i0 (.int .u8 0) 1 1 Tryd.underlying28 hi hz0 hz1 hz2 rfl (by decide) _ _ _ rfl (HX2.out.own.alloc _) ⟨w2.heap.size, 0, none⟩ 1 1 [.int .u8 92] rfl rfl ?c1 ?c2 ?c3 ?c4 ?c5 ?_)
          case c1 =>
            intro j u hj
            match j, hj with
            | 0, hj => simp at hj; subst hj; simp [Addr.add]
          case c2 => intro u hu; simp at hu; subst hu; rfl
          case c3 => unfold maxLen; simp; omega
          case c4 => simp; omega
          case c5 => have := HBa.out.size; simp; omega
          intro v' w3 hown' hgr _
          have HB3 : Hid (Below w.heap.size w w3) := Lib.hid ((HX2.out.bel.alloc HX2.out.bel.size _).grown hgr (by have := HX2.out.bel.size; simp; omega) (fun j hj => (HX2.out.own.lt j hj).1))
          have HS3 : Hid (w3.heap[w1.heap.size]? = some (.cells #[.int .u64 (sw sgnP 0 : Nat), .int .u64 (sw sgnP 1 : Nat), .int .u64 (sw sgnP 2 : Nat), .int .u64 (sw sgnP 3 : Nat)] 24 (0, 0))) := Lib.hid (blk_grown (blk_alloc HX2.out.set _) hgr (own_neK HX2.out.own HX2.out.set (by decide)))
          have HO3 : Hid (w3.ownsRow w.heap.size 5 1 v' ((quoteL ((bys s).take k)).length + 1) ((quoteL ((bys s).take k)).map (Value.int .u8) ++ [.int .u8 92])) := Lib.hid hown'
          obtain ⟨a3, cap3, hv3⟩ := own_shapeK HO3.out
          clear hown' hgr hsg
          subst hv3
          go_wp2_with (at_builtin; refine wpList_append_own _ rfl _ _ 28 rfl w.heap.size 5 i0 (.int .u8 0) 1 1 Tryd.underlying28 hi hz0 hz1 hz2 rfl (by decide) _ _ _ rfl (HO3.out.alloc _) ⟨w3.heap.size, 0, none⟩ 1 1 [.int .u8 (c : Int)] rfl rfl ?c1 ?c2 ?c3 ?c4 ?c5 ?_)
          case c1 =>
            intro j u hj
            match j, hj with
            | 0, hj => simp at hj; subst hj; simp [Addr.add]
          case c2 => intro u hu; simp at hu; subst hu; rfl
          case c3 => unfold maxLen; simp; omega
          case c4 => simp; omega
          case c5 => have := HB3.out.size; simp; omega
          intro v' w4 hown' hgr _
          have HN : Hid (QuI w w1.heap.size s (k + 1) v' w4) := Lib.hid ⟨by omega, (HB3.out.alloc HB3.out.size _).grown hgr (by have := HB3.out.size; simp; omega) (fun j hj => (HO3.out.lt j hj).1), HX2.out.ge, blk_grown (blk_alloc HS3.out _) hgr (own_neK HO3.out HS3.out (by decide)), by rw [HTN.out, HQ1.out, List.length_append, List.map_append]; simpa using hown'⟩
          clear hown' hgr
          go_wp2
          exact ⟨⟨k + 1, by go_num, HN.out⟩, by simp [intOf]; omega⟩
        | false =>
          have HQ1 : Hid (q1 (c : Int) = [(c : Int)]) := Lib.hid (by unfold q1; rw [if_neg (by intro h; unfold sgnP at hsg; rw [h] at hsg; cases hsg)])
          have HBa := Lib.hid HX2.out.bel
          clear hsg
          go_wp2_with (at_builtin; refine wpList_append_own _ rfl _ _ 28 rfl w.heap.size 5 i0 (.int .u8 0) 1 1 Tryd.underlying28 hi hz0 hz1 hz2 rfl (by decide) _ _ _ rfl (HX2.out.own.alloc _) ⟨w2.heap.size, 0, none⟩ 1 1 [.int .u8 (c : Int)] rfl rfl ?c1 ?c2 ?c3 ?c4 ?c5 ?_)
          case c1 =>
            intro j u hj
            match j, hj with
            | 0, hj => simp at hj; subst hj; simp [Addr.add]
          case c2 => intro u hu; simp at hu; subst hu; rfl
          case c3 => unfold maxLen; simp; omega
          case c4 => simp; omega
          case c5 => have := HBa.out.size; simp; omega
          intro v' w4 hown' hgr _
          have HN : Hid (QuI w w1.heap.size s (k + 1) v' w4) := Lib.hid ⟨by omega, (HX2.out.bel.alloc HX2.out.bel.size _).grown hgr (by have := HX2.out.bel.size; simp; omega) (fun j hj => (HX2.out.own.lt j hj).1), HX2.out.ge, blk_grown (blk_alloc HX2.out.set _) hgr (own_neK HX2.out.own HX2.out.set (by decide)), by rw [HTN.out, HQ1.out, List.length_append, List.map_append]; exact hown'⟩
          clear hown' hgr
          go_wp2
          exact ⟨⟨k + 1, by go_num, HN.out⟩, by simp [intOf]; omega⟩
    · have hke : k = s.size := by omega
      have HQ : Hid (quoteL ((bys s).take k) = quoteL (bys s)) := Lib.hid (by rw [List.take_of_length_le (by rw [bys_length]; omega)])
      have HSL : Hid (Sl wr (.slice a0 (quoteL ((bys s).take k)).length cap0) (quoteL ((bys s).take k))) := Lib.hid (slOwnedM HI.out.own (by rw [HQ.out]; exact quote_byt (bys_byt s)) (by omega))
      have hcv := conv_string HSL.out
      clear hke
      go_wp2
      go_ret
      exact ⟨by rw [← HQ.out]; rfl, HI.out.bel⟩
end Go.Proofs.YtndgomocehfmgaaDoor
/- GlobQuotes: Pieces, the walk, opened. -/
namespace Go.Proofs.YtndgomocehfmgaaDoor
open Go.RowKit

theorem own_any {w : World} {B : Nat} {e : TypeId} {s : Nat} {v : Value} {n : Nat} {xs : List Value} (h : w.ownsRow B e s v n xs) : ∃ a0 cap, v = .slice a0 n cap := own_shapeK h

set_option maxRecDepth 100000 in
set_option maxHeartbeats 8000000 in
/-- A copy of the pieces. -/
theorem pieces_any (B b : Nat) (ps : List Pc) (w : World) (h : PatAt B b ps w) (hl : ps.length ≤ 1048576) :
    Calls Tryd.prog 22 #[.pointer (some ⟨b, 0, none⟩)] w fun x w' => ∃ v, x = .returned v ∧ w'.ownsRow w.heap.size 58 5 v ps.length (cellsL ps) ∧ Below w.heap.size w w' := by
  obtain ⟨hB, v, u, hpb, hrow, hplain⟩ := h
  obtain ⟨i0, z0, hi, hz0, hz1, hz2, hz3⟩ := piece_parts
  obtain ⟨⟨c0, c1⟩, _, hbz⟩ := cells2 hpb
  have q48 : ∀ (w : World) (a : Option Addr) (n c n' c' : Nat), (binOp .eql 48 (.slice a n c) (.slice none n' c')).run Tryd.prog w = .ok (.bool a.isNone) w := fun w a n c n' c' => Lib.run_eql_slice_nil w _ _ a n c n' c' Tryd.underlying48
  have HC : Hid (Calls Tryd.prog 51 #[v] w fun x w' => ∃ v, x = .returned v ∧ w'.ownsRow w.heap.size 58 5 v ps.length (cellsL ps) ∧ Below w.heap.size w w') := by
    rcases hrow.2 with ⟨rfl, h0⟩ | ⟨g, cap, cur, rfl, hgl, hgb, hnc, hcm, hcz, htk⟩
    · have hp : ps = [] := List.length_eq_zero_iff.1 h0
      subst hp
      clear hrow hplain hpb
      refine Lib.hid ?_
      go_enter Tryd.func51, Tryd.ntmps51
      go_wp2
      go_ret
      exact ⟨_, rfl, World.ownsRow_nil _ _ _ _, Below.refl _ _⟩
    · have hnews : ∀ j y, (cellsL ps)[j]? = some y → (w.alloc (.cells #[] 58)).cell? ((⟨g, 0, none⟩ : Addr).add j) = some y := fun j y hj => by
        have h1 := (hrow.alloc (.cells #[] 58)).cells (g := g) rfl j y hj
        exact h1
      have hone : ∀ y ∈ cellsL ps, y.oneCell' = true := fun y hy => by
        unfold cellsL at hy
        obtain ⟨x, hx, hyx⟩ := List.mem_flatten.1 hy
        obtain ⟨p, _, rfl⟩ := List.mem_map.1 hx
        exact one5 _ _ _ _ _ y hyx
      have hown0 := World.ownsRow_made (base := w.heap.size) (e := 58) (size := 5) w #[] 0 (Nat.le_refl _) (by unfold maxLen; omega) rfl
      have HN := Lib.hid hnews
      have HON := Lib.hid hone
      have HO0 := Lib.hid hown0
      have hcl := cellsL_len ps
      have HCL := Lib.hid hcl
      clear hrow hplain hpb hnews hone hown0 hgb hcz htk hcl
      refine Lib.hid ?_
      go_enter Tryd.func51, Tryd.ntmps51
      go_wp2_with (at_builtin; refine wpList_append_own _ rfl _ _ 48 rfl w.heap.size 58 i0 z0 5 40 Tryd.underlying48 hi hz0 hz1 hz2 hz3 (by decide) _ _ _ rfl HO0.out ⟨g, 0, none⟩ ps.length cap (cellsL ps) rfl HCL.out HN.out HON.out (by unfold maxLen; omega) (by omega) (by simp) ?_)
      intro v' w4 hown' hgr _
      have HE : Hid (w4.ownsRow w.heap.size 58 5 v' ps.length (cellsL ps) ∧ Below w.heap.size w w4) := Lib.hid ⟨by simpa using hown', ((Below.refl w.heap.size w).alloc (Nat.le_refl _) _).grown hgr (by simp) (fun k hk => (HO0.out.lt k hk).1)⟩
      clear hown' hgr
      go_wp2
      go_ret
      exact ⟨_, rfl, HE.out.1, HE.out.2⟩
  clear hrow hplain hpb
  obtain ⟨vv, hvv⟩ : ∃ vv, vv = v := ⟨_, rfl⟩
  go_enter Tryd.func22, Tryd.ntmps22
  go_wp2_with fail
  refine HC.out.mono ?_
  rintro x w1 ⟨v', rfl, hown, hb1⟩
  have HE : Hid (w1.ownsRow w.heap.size 58 5 v' ps.length (cellsL ps) ∧ Below w.heap.size w w1) := Lib.hid ⟨hown, hb1⟩
  clear hown hb1
  go_wp2
  go_ret
  exact ⟨_, rfl, HE.out.1, HE.out.2⟩
end Go.Proofs.YtndgomocehfmgaaDoor
/- GlobQuotes: its walk, opened (gen_qts.py). -/
namespace Go.Proofs.YtndgomocehfmgaaDoor
open Go.RowKit

set_option maxRecDepth 100000 in
set_option maxHeartbeats 16000000 in
theorem gquotes_any (cf : ByteArray → (Nat → Bool) × Bool) (hcf : ClassOk cf) (e : Nat → Addr) (s : ByteArray) (hss : s.size ≤ 1048576) (v : Value) (l : List Int) (w : World) (he : Es w w.heap.size e) (hT : TZ w) (hD : DB w) (hs : Sl w v l) (hll : l.length ≤ 1048576) :
    Calls Tryd.prog 8 #[.string s, v] w fun x w' => x = .returned (.bool true) ∧ Below w.heap.size w w' := by
  have HQ := Lib.hid (quote_any s w hss)
  have hql := quoteL_len (bys s)
  rw [bys_length] at hql
  have hqz : (ofBys (quoteL (bys s))).size = (quoteL (bys s)).length := ofBys_size _
  have HQB : Hid (bys (ofBys (quoteL (bys s))) = quoteL (bys s)) := Lib.hid (bys_ofBys (quote_byt (bys_byt s)))
  have hes : ∀ X, Below w.heap.size w X → Es X X.heap.size e := fun X hX => ⟨(he.below hX).var, Nat.lt_of_lt_of_le he.low hX.size, Nat.le_refl _⟩
  have HA : ∀ X, Below w.heap.size w X → Hid (Calls Tryd.prog 24 #[] X fun x w' => x = .returned (.bool true) ∧ Below X.heap.size X w') := fun X hX => Lib.hid (awake6_any cf hcf e X (hes X hX) (hT.below hX) (hD.below hX))
  have HPR : ∀ X v l, Below w.heap.size w X → Sl X v l → l.length ≤ 256 → Hid (Calls Tryd.prog 26 #[v] X fun x w' => ∃ b, x = .returned (.tuple #[.pointer (some ⟨b, 0, none⟩), .nilIface]) ∧ PatAt X.heap.size b (glP cf l) w' ∧ Below X.heap.size X w') := fun X v l hX hv hl => Lib.hid (parse_ok cf hcf e v l X (hes X hX) (hT.below hX) hv hl)
  have HPL : ∀ X a n cap, Below w.heap.size w X → 256 < n → Hid (Calls Tryd.prog 26 #[.slice a n cap] X fun x w' => ∃ v, x = .returned (.tuple #[.pointer none, v]) ∧ ErrS w' X.heap.size e 2 2 0 v ∧ Below X.heap.size X w') := fun X a n cap hX hn => Lib.hid (parse_long e a n cap hn X (hes X hX))
  have HAH := Lib.hid HA
  have HPRH := Lib.hid HPR
  have HPLH := Lib.hid HPL
  have HSL := Lib.hid hs
  have HGQ := Lib.hid (glP_quote cf (bys s))
  have HPQ := Lib.hid (plain_quote (bys_byt s))
  obtain ⟨va, vc, hv⟩ : ∃ a c, v = .slice a l.length c := by
    rcases hs.shape with ⟨rfl, a, cap, rfl⟩ | ⟨x, o, cap, rfl, _⟩
    · exact ⟨a, cap, rfl⟩
    · exact ⟨_, cap, rfl⟩
  subst hv
  clear he hT hD hs hcf hes HA HPR HPL
  have hqz' : (quoteL (bys s)).length ≤ 2097152 := by omega
  generalize hQ : ofBys (quoteL (bys s)) = q at *
  have HQS : Hid (q.size = (quoteL (bys s)).length) := Lib.hid hqz
  have hqm : q.size ≤ 2097152 := by rw [hqz]; exact hqz'
  have HQE := Lib.hid hQ
  clear hQ hqz hql hqz'
  obtain ⟨n, hn⟩ : ∃ n, n = l.length := ⟨_, rfl⟩
  have HNL := Lib.hid hn
  rw [← hn] at hll ⊢
  rw [← hn] at HSL
  clear hn
  go_enter Tryd.func8, Tryd.ntmps8
  go_wp2_with fail
  refine HQ.out.mono ?_
  rintro x w1 ⟨rfl, hb1⟩
  have HB1 := Lib.hid hb1
  clear hb1
  by_cases h256 : q.size ≤ 256
  · have h256I : (q.size : Int) ≤ 256 := by omega
    obtain ⟨qc, W2, hcv, hsl2, hb2⟩ := conv_sl w1 q (by omega)
    have HB2 := Lib.hid (below_thn HB1.out (Nat.le_refl _) hb2)
    rw [HQB.out] at hsl2
    have HP2 := Lib.hid (HPRH.out W2 _ _ HB2.out hsl2 (by rw [← HQS.out]; exact h256))
    clear hsl2 hb2
    go_wp2_with fail
    refine HP2.out.out.mono ?_
    rintro x w3 ⟨b, rfl, hp3, hb3⟩
    have HB3 := Lib.hid (below_thn HB2.out (Nat.le_refl _) hb3)
    rw [HGQ.out] at hp3
    have HPL3 := Lib.hid (plain_any _ b _ w3 hp3 (by rw [List.length_map, bys_length]; exact hss))
    rw [HPQ.out, List.length_map, bys_length, if_neg (Nat.lt_irrefl _), ofBys_bys, show decide (s.size ≤ s.size) = true by simp] at HPL3
    clear hb3 hp3 hcv
    go_wp2_with fail
    refine HPL3.out.mono ?_
    rintro x w4 ⟨rfl, hb4⟩
    have HB4 := Lib.hid (below_thn HB3.out (Nat.le_refl _) hb4)
    clear hb4
    by_cases hl256 : n ≤ 256
    · have hlI : decide ((256 : Int) < (n : Int)) = false := by simp; omega
      have HP := Lib.hid (HPRH.out w4 _ l HB4.out (by have := HSL.out.below HB4.out; exact this) (by rw [← HNL.out]; exact hl256))
      go_wp2_with fail
      refine HP.out.out.mono ?_
      rintro x w5 ⟨b, rfl, hp, hb⟩
      have HBy := Lib.hid (below_thn HB4.out (Nat.le_refl _) hb)
      have hgl := glP_len cf l
      rw [← HNL.out] at hgl
      have HPC := Lib.hid (pieces_any _ _ _ w5 hp (by omega))
      clear hb hp
      obtain ⟨m, hm⟩ : ∃ m, m = (glP cf l).length := ⟨_, rfl⟩
      rw [← hm] at hgl HPC
      clear hm
      go_wp2_with fail
      refine HPC.out.mono ?_
      rintro x w6 ⟨pv, rfl, hown, hb⟩
      obtain ⟨pa, pcap, rfl⟩ := own_shapeK hown
      have HBz := Lib.hid (below_thn HBy.out (Nat.le_refl _) hb)
      have hmI : (m : Int) ≤ (n : Int) := by omega
      clear hb hown
      go_wp2_with fail
      refine (HAH.out _ HBz.out).out.mono ?_
      rintro x w7 ⟨rfl, hb⟩
      have HBu := Lib.hid (below_thn HBz.out (Nat.le_refl _) hb)
      clear hb
      go_wp2
      go_ret
      exact ⟨rfl, HBu.out⟩
    · have hlI : decide ((256 : Int) < (n : Int)) = true := by simp; omega
      have hn0 : (0 : Int) ≤ (n : Int) := by omega
      go_wp2_with fail
      refine (HPLH.out w4 va n vc HB4.out (by omega)).out.mono ?_
      rintro x w5 ⟨ev, rfl, her, hb⟩
      obtain ⟨kk, rfl⟩ := her.iface
      have HBy := Lib.hid (below_thn HB4.out (Nat.le_refl _) hb)
      clear hb her
      go_wp2_with fail
      refine (pieces_nil _).mono ?_
      rintro x w6 ⟨rfl, rfl⟩
      go_wp2_with fail
      refine (HAH.out _ HBy.out).out.mono ?_
      rintro x w7 ⟨rfl, hb⟩
      have HBu := Lib.hid (below_thn HBy.out (Nat.le_refl _) hb)
      clear hb
      go_wp2
      go_ret
      exact ⟨rfl, HBu.out⟩
  · have h256I : ¬ (q.size : Int) ≤ 256 := by omega
    by_cases hl256 : n ≤ 256
    · have hlI : decide ((256 : Int) < (n : Int)) = false := by simp; omega
      have HP := Lib.hid (HPRH.out w1 _ l HB1.out (by have := HSL.out.below HB1.out; exact this) (by rw [← HNL.out]; exact hl256))
      go_wp2_with fail
      refine HP.out.out.mono ?_
      rintro x w5 ⟨b, rfl, hp, hb⟩
      have HBy := Lib.hid (below_thn HB1.out (Nat.le_refl _) hb)
      have hgl := glP_len cf l
      rw [← HNL.out] at hgl
      have HPC := Lib.hid (pieces_any _ _ _ w5 hp (by omega))
      clear hb hp
      obtain ⟨m, hm⟩ : ∃ m, m = (glP cf l).length := ⟨_, rfl⟩
      rw [← hm] at hgl HPC
      clear hm
      go_wp2_with fail
      refine HPC.out.mono ?_
      rintro x w6 ⟨pv, rfl, hown, hb⟩
      obtain ⟨pa, pcap, rfl⟩ := own_shapeK hown
      have HBz := Lib.hid (below_thn HBy.out (Nat.le_refl _) hb)
      have hmI : (m : Int) ≤ (n : Int) := by omega
      clear hb hown
      go_wp2_with fail
      refine (HAH.out _ HBz.out).out.mono ?_
      rintro x w7 ⟨rfl, hb⟩
      have HBu := Lib.hid (below_thn HBz.out (Nat.le_refl _) hb)
      clear hb
      go_wp2
      go_ret
      exact ⟨rfl, HBu.out⟩
    · have hlI : decide ((256 : Int) < (n : Int)) = true := by simp; omega
      have hn0 : (0 : Int) ≤ (n : Int) := by omega
      go_wp2_with fail
      refine (HPLH.out w1 va n vc HB1.out (by omega)).out.mono ?_
      rintro x w5 ⟨ev, rfl, her, hb⟩
      obtain ⟨kk, rfl⟩ := her.iface
      have HBy := Lib.hid (below_thn HB1.out (Nat.le_refl _) hb)
      clear hb her
      go_wp2_with fail
      refine (pieces_nil _).mono ?_
      rintro x w6 ⟨rfl, rfl⟩
      go_wp2_with fail
      refine (HAH.out _ HBy.out).out.mono ?_
      rintro x w7 ⟨rfl, hb⟩
      have HBu := Lib.hid (below_thn HBy.out (Nat.le_refl _) hb)
      clear hb
      go_wp2
      go_ret
      exact ⟨rfl, HBu.out⟩

set_option maxRecDepth 100000 in
theorem globQuotes_open {H : Type} {enc : TypeId × Value → H} {d0 d1 : DataW H} {p0 p1 : List MemPlace} {q : Prop} (W : World) (base : Nat) (v0 v1 : Value)
    (h0 : DataW.Trod enc Tryd.prog W 0 (fun _ => true) true 9 v0 d0 p0) (h1 : DataW.Trod enc Tryd.prog W 0 (fun _ => true) true 28 v1 d1 p1)
    (k0 : Value.okWide Tryd.prog W .any base 9 v0) (k1 : Value.okWide Tryd.prog W .any base 28 v1) (_ : q)
    (hk : Rows.uptoSmall H [d0, d1] = true) (hL : laidMetH Tryd.prog Rows.globQuotesUptoRow.laid W) :
    Calls Tryd.prog 8 #[v0, v1] W fun e W' => e = .returned (.bool true) ∧ Below W.heap.size W W' := by
  obtain ⟨s, rfl, rfl, _, hmax⟩ := Go.ChangeMaps.open_string Tryd.underlying9 k0 h0
  obtain ⟨l, hs, hl⟩ := sl_of_b k1 h1
  obtain ⟨e, he, hT, hD⟩ := gl_of_laid (by kernel_rfl) (by kernel_rfl) hL
  obtain ⟨cf, hcf⟩ := classes_ok
  have hb : Rows.uptoBulkAll [DataW.lit (H := H) (.string s.data.toList), d1] ≤ 1048576 := of_decide_eq_true hk
  simp only [Rows.uptoBulkAll, Rows.uptoBulk] at hb
  have hss : s.data.toList.length = s.size := by simp
  exact gquotes_any cf hcf e s (by omega) v1 l W he hT hD hs (by omega)
end Go.Proofs.YtndgomocehfmgaaDoor
namespace Go.Proofs.YtndgomocehfmgaaDoor
open Go.ChangeShapes Go.WideShapes Go.ChangeAt Go.RowKit

theorem globQuotes_own : ownKnob Tryd.prog.godebug = none := by kernel_rfl
theorem globQuotes_laidOut : laidOutB Tryd.prog = true := by kernel_rfl

set_option maxRecDepth 100000 in
theorem globQuotes_reads (os : Os) {H : Type} (enc : TypeId × Value → H) : ∃ places, DataW.whole enc Tryd.prog ((World.laidAll Tryd.prog os Rows.globQuotesUptoRow.laid).forCall (fun _ _ => 0) ⟨#[], #[.string ⟨#[]⟩, .slice none 0 0], []⟩).memory Tryd.f8.params.toList Rows.globQuotesSpec.vars false #[.string ⟨#[]⟩, .slice none 0 0].toList 8 = some ([.lit (.string []), .nil], [], places) :=
  ⟨[], by kernel_rfl⟩
set_option maxRecDepth 100000 in
theorem globQuotes_lifted (os : Os) (started : os.Started) (H : Type) (enc : TypeId × Value → H) (F : Stop.Interp) :
    ReturnsInHanded {} Tryd.checked os 8 .any ((Rows.OpenSpec.upto Rows.globQuotesSpec).preRow enc Tryd.prog Tryd.f8 Rows.globQuotesUptoRow.domain false Rows.globQuotesUptoRow.laid) (((Rows.OpenSpec.upto Rows.globQuotesSpec).at F).post enc Tryd.prog Tryd.f8 false true false false) := by
  obtain ⟨places, hx⟩ := globQuotes_reads os enc
  refine returnsInHanded_of_row (C := Tryd.checked) (s := Rows.OpenSpec.upto Rows.globQuotesSpec) globQuotes_own started (by kernel_rfl) Tryd.func8
    ⟨(World.laidAll Tryd.prog os Rows.globQuotesUptoRow.laid), fun _ _ => 0, ⟨#[], #[.string ⟨#[]⟩, .slice none 0 0], []⟩, World.laidAll_os _ _ _, (World.shaped_of_ZipB (by kernel_rfl) (by kernel_rfl)), rfl, (Input.okWide_of_okWideB (by kernel_rfl)).2,
      OpenSpec.preRow_of_cond 8 hx (by kernel_rfl) (fun k hk => by cases hk; kernel_rfl) (by kernel_rfl) (by rw [MakeChecks.laidMetH_plain _ _ _ (by kernel_rfl)]; exact laidMet_laidAll _ (by kernel_rfl) (by kernel_rfl)), by
      simp only [Assume.holds]
      exact ⟨by simp, by simp, fun _ => Modest.zero, by simp, by simp⟩⟩ ?_
  intro W base args ds gs before hval0 hW _ hcond hsz0 hL _ _
  have hk0 := hcond _ rfl
  show Calls Tryd.prog 8 args W fun e W' => ∃ v, e = .returned v ∧ Rows.globQuotesSpec.post enc Tryd.prog Tryd.f8 false true false false W args v W'
  have hval : ∀ (j : Nat) t v, Tryd.f8.params[j]? = some t → args[j]? = some v → Value.okWide Tryd.prog W .any base t v := hval0
  have hsz : (DataW.weightsEach Tryd.prog (Tryd.f8.params.toList ++ Rows.globQuotesSpec.plain.varTypes Tryd.prog) (ds ++ gs)).all (· ≤ reachBytes) = true := hsz0
  clear hsz0
  have hW' := hW
  obtain ⟨p, q, hA0, hV, rfl, hfz, hnd⟩ := hW
  have hA : DataW.TrodAll enc Tryd.prog W 0 (fun _ => true) true Tryd.f8.params.toList args.toList ds p := hA0
  rw [Tryd.params8] at hA hval hsz
  obtain ⟨v0, v1, d0, d1, p0, p1, rfl, rfl, rfl, h0, h1⟩ := trodAll_two hA
  obtain ⟨rfl, rfl⟩ := trodVars_none hV
  clear hA0 hval0
  simp only [List.append_nil] at hW'
  have hlt : ∀ x ∈ p0 ++ (p1), x.block < W.heap.size := fun x hx => by first | simpa using hW'.lt x hx | simpa using hW'.lt x (by simpa using hx)
  simp only [List.append_nil] at hk0
  refine (globQuotes_open W base v0 v1 h0 h1 (hval 0 9 v0 rfl rfl) (hval 1 28 v1 rfl rfl) hsz hk0 hL).mono fun e W' ⟨he, hb⟩ => ?_
  subst he
  have e1 : Rows.globQuotesSpec.fn H ([d0, d1] ++ []) = { results := [.lit (.bool true)], args := [d0, d1] } := by simp [Rows.globQuotesSpec]
  refine ⟨_, rfl, _, _, _, [], p0 ++ (p1), [], hW', ?_, ?_, ?_, hb.frame _, fun h => by cases h⟩
  · rw [e1]; exact trodAll_mk1 (shut_bool Tryd.underlying4 true)
  · rw [e1]; exact trodAll_mk2 (Below.trod globQuotes_laidOut (by kernel_rfl) (of_decide_eq_true (by kernel_rfl)) h0 hb (fun x hx => hlt x (by simp [hx]))) (Below.trod globQuotes_laidOut (by kernel_rfl) (of_decide_eq_true (by kernel_rfl)) h1 hb (fun x hx => hlt x (by simp [hx])))
  · rw [e1]; rfl

theorem globQuotes_said : Rows.GlobQuotesUptoSaid :=
  OpenClaim.holds_of_cond 8 Tryd.f8 rfl rfl rfl rfl rfl rfl rfl ⟨rfl, rfl, rfl, rfl, rfl⟩ rfl rfl rfl rfl rfl (by kernel_rfl) Tryd.func8 (by kernel_rfl)
    (of_decide_eq_true (by kernel_rfl)) (by unfold Func.isWrapper; rw [if_neg (of_decide_eq_false (by kernel_rfl))]; exact ⟨rfl, rfl⟩)
    (fun os started H enc _ F => by rw [OpenClaim.pre_eq_preRow]; exact globQuotes_lifted os started H enc F)

theorem globQuotes_holds : Rows.GlobQuotesUptoCardSaid :=
  Claim7.holds_tied_plain_at .later [] Rows.globQuotesUptoCard.laidKinds true Rows.globQuotesUptoCard.stood.harness Rows.globQuotesUptoCard.stood.looks
    globQuotes_said (fun _ h => by cases h) (by kernel_rfl) (fun _ h => by cases h) globQuotesUpto_row_tie rfl ⟨rfl, rfl⟩ (by kernel_rfl) rfl
    (fun f fn hf hfn => by
      obtain rfl : f = 8 := Option.some.inj ((show Tryd.prog.funcNamed "pidgin/pidginlaw6.GlobQuotes" = some 8 by kernel_rfl).symm.trans hf) |>.symm
      obtain rfl : fn = Tryd.f8 := (Option.some.inj (Tryd.func8.symm.trans hfn)).symm
      exact ⟨by kernel_rfl, fun j t ht => by
        rw [Tryd.params8] at ht
        have hm : t ∈ [9, 28] := by simpa using Array.mem_of_getElem? ht
        have hall : ([9, 28].all fun u => !Tryd.prog.wantsStandIn u) = true := by kernel_rfl
        exact (show Tryd.prog.wantsStandIn t = false by simpa using List.all_eq_true.1 hall t hm)⟩)
    (by kernel_rfl)
#print axioms globQuotes_holds
end Go.Proofs.YtndgomocehfmgaaDoor
