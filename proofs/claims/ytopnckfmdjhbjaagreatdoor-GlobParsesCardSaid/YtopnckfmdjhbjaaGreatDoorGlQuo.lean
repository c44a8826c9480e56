/- The contract of Quote (gen_quote.py). -/
import Derived.Test.YtopnckfmdjhbjaaGreatDoorGlM3
import Derived.Test.YtopnckfmdjhbjaaGreatDoorKSet
namespace Go.Proofs.YtopnckfmdjhbjaaGreatDoor
open Go.RowKit

def sgnP (c : Nat) : Bool := sgn (c : Int)
theorem sgn_mem : SV (mem (bys ⟨#[42, 63, 91, 92]⟩)) = SV sgnP := SV_congr fun c _ => by
 have e : bys ⟨#[42, 63, 91, 92]⟩ = [42, 63, 91, 92] := by kernel_rfl
 unfold mem sgnP sgn
 rw [e, Bool.eq_iff_iff]
 simp
theorem take_next (s : ByteArray) (k : Nat) (h : k < s.size) : (bys s).take (k + 1) = (bys s).take k ++ [(s[k].toNat : Int)] := by
 have hl : k < (bys s).length := by rw [bys_length]; exact h
 rw [List.take_succ_eq_append_getElem hl]
 congr 2
 have := bys_getD s k h
 rwa [List.getD_eq_getElem?_getD, List.getElem?_eq_getElem hl, Option.getD_some] at this
/-- The loop's state. -/
structure QuI (w : World) (b : Nat) (s : ByteArray) (k : Nat) (v : Value) (X : World) : Prop where
 hk : k ≤ s.size
 bel : Below w.heap.size w X
 ge : w.heap.size ≤ b
 set : X.heap[b]? = some (.cells #[.int .u64 (sw sgnP 0 : Nat), .int .u64 (sw sgnP 1 : Nat), .int .u64 (sw sgnP 2 : Nat), .int .u64 (sw sgnP 3 : Nat)] 53 (0, 0))
 own : X.ownsRow w.heap.size 5 1 v (quoteL ((bys s).take k)).length ((quoteL ((bys s).take k)).map (Value.int .u8))

set_option maxRecDepth 100000 in
set_option maxHeartbeats 8000000 in
theorem quote_any (s : ByteArray) (w : World) (hs : s.size ≤ 1048576) :
  Calls Tryz.prog 13 #[.string s] w fun e w' => e = .returned (.string (ofBys (quoteL (bys s)))) ∧ Below w.heap.size w w' := by
 obtain ⟨i0, hi, hz0, hz1, hz2⟩ := info_parts byte_row
 have HO : Hid (Calls Tryz.prog 31 #[.string ⟨#[42, 63, 91, 92]⟩] w fun e w' => e = .returned (.agg #[.int .u64 (sw sgnP 0 : Nat), .int .u64 (sw sgnP 1 : Nat), .int .u64 (sw sgnP 2 : Nat), .int .u64 (sw sgnP 3 : Nat)]) ∧ Below w.heap.size w w') := Lib.hid (by have := of_any ⟨#[42, 63, 91, 92]⟩ w (by decide); rw [sgn_mem] at this; exact this)
 go_enter Tryz.func13, Tryz.ntmps13
 go_wp2_with fail
 refine HO.out.mono ?_
 rintro e w1 ⟨rfl, hb1⟩
 have HI0 : Hid (QuI w w1.heap.size s 0 (.slice none 0 0) (w1.alloc (.cells #[.int .u64 (sw sgnP 0 : Nat), .int .u64 (sw sgnP 1 : Nat), .int .u64 (sw sgnP 2 : Nat), .int .u64 (sw sgnP 3 : Nat)] 53))) := Lib.hid ⟨Nat.zero_le _, hb1.alloc hb1.size _, hb1.size, alloc_last w1 _, World.ownsRow_nil _ _ _ _⟩
 clear hb1
 go_wp2_with fail
 go_loopw [4, 9] (fun v i X => ∃ k : Nat, i = .int .i64 k ∧ QuI w w1.heap.size s k v X) (fun _ i _ => s.size - (intOf i).toNat)
 case atStart => exact ⟨0, rfl, HI0.out⟩
 case round =>
  obtain ⟨k, rfl, hI⟩ := hrel
  have HI := Lib.hid hI
  have hk := hI.hk
  have hql := quoteL_len ((bys s).take k)
  rw [List.length_take, bys_length] at hql
  have hqb : (quoteL ((bys s).take k)).length ≤ 2097152 := by omega
  obtain ⟨a0, cap0, hv0⟩ := own_shapeK hI.own
  clear hI hql
  subst hv0
  by_cases hlt : k < s.size
  ·have hkI : (k : Int) < (s.size : Int) := by omega
   have HTN : Hid (quoteL ((bys s).take (k + 1)) = quoteL ((bys s).take k) ++ q1 (s[k].toNat : Int)) := Lib.hid (by rw [take_next s k hlt, quoteL_snoc])
   have hc256 : s[k].toNat < 256 := s[k].toNat_lt
   obtain ⟨c, hc⟩ : ∃ c, c = s[k].toNat := ⟨_, rfl⟩
   have HH : ∀ X, Hid (Calls Tryz.prog 32 #[.agg #[.int .u64 (sw sgnP 0 : Nat), .int .u64 (sw sgnP 1 : Nat), .int .u64 (sw sgnP 2 : Nat), .int .u64 (sw sgnP 3 : Nat)], .int .u8 (c : Nat)] X fun e w' => e = .returned (.bool (sgnP c)) ∧ Below X.heap.size X w') := fun X => Lib.hid (has_any sgnP c (by omega) X)
   have HCC := Lib.hid hc
   rw [← hc] at HTN hc256
   clear hc
   have hat : s[k].toNat = c := HCC.out.symm
   have hcw : ∀ X, (Instr.index 9 (.string s) (.int .i64 (k : Nat))).run Tryz.prog X = .ok (.int .u8 (c : Nat)) X := fun X => by rw [← hat]; simp [go_sem, hkI]
   go_wp2_with fail
   refine Reg.wp_region_vals (fun X => QuI w w1.heap.size s k (.slice a0 (quoteL ((bys s).take k)).length cap0) X) (fun j => ([some (.agg #[.int .u64 (sw sgnP 0 : Nat), .int .u64 (sw sgnP 1 : Nat), .int .u64 (sw sgnP 2 : Nat), .int .u64 (sw sgnP 3 : Nat)]), some (.string s), some (.int .i64 (k : Nat)), some (.int .u8 (c : Nat)), some (.bool (sgnP c))] : List (Option Value)).getD j none) (fun _ _ _ => True) (by kernel_rfl) (by kernel_rfl) (by kernel_rfl) (by kernel_rfl) ?rs0 ?rsE ?rsZ
   case rs0 => exact ⟨HI.out.hk, HI.out.bel.drew, HI.out.ge, HI.out.set, HI.out.own⟩
   case rsE =>
    refine Reg.EachV.plain rfl (fun T X hS hk K hK => ?_) ?_
    ·skip
     have g3 : T[3]? = some (.pointer (some ⟨w1.heap.size, 0, none⟩)) := hk.old 3 (by kernel_rfl) rfl
     obtain ⟨⟨c0, c1, c2, c3⟩, _, hbz⟩ := cells4 hS.set
     have hK := hK _ X hS (Reg.Is.of_val rfl) (fun _ _ _ h => h)
     clear hk
     go_simp
     exact hK
    refine Reg.EachV.plain rfl (fun T X hS hk K hK => ?_) ?_
    ·skip
     have g0 : T[0]? = some (.string s) := hk.old 0 (by kernel_rfl) rfl
     have hK := hK _ X hS (Reg.Is.of_val rfl) (fun _ _ _ h => h)
     clear hk
     go_simp
     exact hK
    refine Reg.EachV.plain rfl (fun T X hS hk K hK => ?_) ?_
    ·skip
     have g5 : T[5]? = some (.int .i64 (k : Nat)) := hk.old 5 (by kernel_rfl) rfl
     have hK := hK _ X hS (Reg.Is.of_val rfl) (fun _ _ _ h => h)
     clear hk
     go_simp
     exact hK
    refine Reg.EachV.plain rfl (fun T X hS hk K hK => ?_) ?_
    ·skip
     have g13 : T[13]? = some (.string s) := hk.val 1 13 (by kernel_rfl) (by kernel_rfl) rfl
     have g14 : T[14]? = some (.int .i64 (k : Nat)) := hk.val 2 14 (by kernel_rfl) (by kernel_rfl) rfl
     have hK := hK _ X hS (Reg.Is.of_val rfl) (fun _ _ _ h => h)
     clear hk
     go_simp
     exact hK
    refine Reg.EachV.plain rfl (fun T X hS hk K hK => ?_) ?_
    ·skip
     have g12 : T[12]? = some (.agg #[.int .u64 (sw sgnP 0 : Nat), .int .u64 (sw sgnP 1 : Nat), .int .u64 (sw sgnP 2 : Nat), .int .u64 (sw sgnP 3 : Nat)]) := hk.val 0 12 (by kernel_rfl) (by kernel_rfl) rfl
     have g15 : T[15]? = some (.int .u8 (c : Nat)) := hk.val 3 15 (by kernel_rfl) (by kernel_rfl) rfl
     clear hk
     go_simp
     refine ((HH _).out).mono ?_
     rintro e wz ⟨rfl, hb⟩
     exact hK _ _ (⟨hS.hk, below_thn hS.bel (Nat.le_refl _) hb, hS.ge, blk_below hS.set hb, own_drop hS.own hb⟩) (Reg.Is.of_val rfl) (fun _ _ _ h => h)
    exact Reg.EachV.nil
   case rsZ =>
    intro u w2 hS hI
    have e0 : u 0 = .agg #[.int .u64 (sw sgnP 0 : Nat), .int .u64 (sw sgnP 1 : Nat), .int .u64 (sw sgnP 2 : Nat), .int .u64 (sw sgnP 3 : Nat)] := (hI 0 (by decide)).val rfl
    have e1 : u 1 = .string s := (hI 1 (by decide)).val rfl
    have e2 : u 2 = .int .i64 (k : Nat) := (hI 2 (by decide)).val rfl
    have e3 : u 3 = .int .u8 (c : Nat) := (hI 3 (by decide)).val rfl
    have e4 : u 4 = .bool (sgnP c) := (hI 4 (by decide)).val rfl
    clear hI
    simp only [Reg.putAll, Act.put, List.setIfInBounds_toArray, List.set_cons_succ, List.set_cons_zero, Nat.zero_add, Nat.reduceAdd, e0, e1, e2, e3, e4]
    clear e0 e1 e2 e3 e4
    have HX2 := Lib.hid hS
    clear hS
    cases hsg : sgnP c with
    | true =>
     have HQ1 : Hid (q1 (c : Int) = [92, (c : Int)]) := Lib.hid (by unfold q1; rw [if_pos (show sgn (c : Int) = true from hsg)])
     have HBa := Lib.hid HX2.out.bel
     go_wp2_with (at_builtin; refine wpList_append_own _ rfl _ _ 22 rfl w.heap.size 5 i0 (.int .u8 0) 1 1 Tryz.underlying22 hi hz0 hz1 hz2 rfl (by decide) _ _ _ rfl (HX2.out.own.alloc _) ⟨w2.heap.size, 0, none⟩ 1 1 [.int .u8 92] rfl rfl ?c1 ?c2 ?c3 ?c4 ?c5 ?_)
     case c1 =>
      intro j u hj
      match j, hj with
      | 0, hj => simp at hj; subst hj; simp [Addr.add]
     case c2 => intro u hu; simp at hu; subst hu; rfl
     case c3 => unfold maxLen; simp; omega
     case c4 => simp; omega
     case c5 => have := HBa.out.size; simp; omega
     intro v' w3 hown' hgr _
     have HB3 : Hid (Below w.heap.size w w3) := Lib.hid ((HX2.out.bel.alloc HX2.out.bel.size _).grown hgr (by have := HX2.out.bel.size; simp; omega) (fun j hj => (HX2.out.own.lt j hj).1))
     have HS3 : Hid (w3.heap[w1.heap.size]? = some (.cells #[.int .u64 (sw sgnP 0 : Nat), .int .u64 (sw sgnP 1 : Nat), .int .u64 (sw sgnP 2 : Nat), .int .u64 (sw sgnP 3 : Nat)] 53 (0, 0))) := Lib.hid (blk_grown (blk_alloc HX2.out.set _) hgr (own_neK HX2.out.own HX2.out.set (by decide)))
     have HO3 : Hid (w3.ownsRow w.heap.size 5 1 v' ((quoteL ((bys s).take k)).length + 1) ((quoteL ((bys s).take k)).map (Value.int .u8) ++ [.int .u8 92])) := Lib.hid hown'
     obtain ⟨a3, cap3, hv3⟩ := own_shapeK HO3.out
     clear hown' hgr hsg
     subst hv3
     go_wp2_with (at_builtin; refine wpList_append_own _ rfl _ _ 22 rfl w.heap.size 5 i0 (.int .u8 0) 1 1 Tryz.underlying22 hi hz0 hz1 hz2 rfl (by decide) _ _ _ rfl (HO3.out.alloc _) ⟨w3.heap.size, 0, none⟩ 1 1 [.int .u8 (c : Int)] rfl rfl ?c1 ?c2 ?c3 ?c4 ?c5 ?_)
     case c1 =>
      intro j u hj
      match j, hj with
      | 0, hj => simp at hj; subst hj; simp [Addr.add]
     case c2 => intro u hu; simp at hu; subst hu; rfl
     case c3 => unfold maxLen; simp; omega
     case c4 => simp; omega
     case c5 => have := HB3.out.size; simp; omega
     intro v' w4 hown' hgr _
     have HN : Hid (QuI w w1.heap.size s (k + 1) v' w4) := Lib.hid ⟨by omega, (HB3.out.alloc HB3.out.size _).grown hgr (by have := HB3.out.size; simp; omega) (fun j hj => (HO3.out.lt j hj).1), HX2.out.ge, blk_grown (blk_alloc HS3.out _) hgr (own_neK HO3.out HS3.out (by decide)), by rw [HTN.out, HQ1.out, List.length_append, List.map_append]; simpa using hown'⟩
     clear hown' hgr
     go_wp2
     exact ⟨⟨k + 1, by go_num, HN.out⟩, by simp [intOf]; omega⟩
    | false =>
     have HQ1 : Hid (q1 (c : Int) = [(c : Int)]) := Lib.hid (by unfold q1; rw [if_neg (by intro h; unfold sgnP at hsg; rw [h] at hsg; cases hsg)])
     have HBa := Lib.hid HX2.out.bel
     clear hsg
     go_wp2_with (at_builtin; refine wpList_append_own _ rfl _ _ 22 rfl w.heap.size 5 i0 (.int .u8 0) 1 1 Tryz.underlying22 hi hz0 hz1 hz2 rfl (by decide) _ _ _ rfl (HX2.out.own.alloc _) ⟨w2.heap.size, 0, none⟩ 1 1 [.int .u8 (c : Int)] rfl rfl ?c1 ?c2 ?c3 ?c4 ?c5 ?_)
     case c1 =>
      intro j u hj
      match j, hj with
      | 0, hj => simp at hj; subst hj; simp [Addr.add]
     case c2 => intro u hu; simp at hu; subst hu; rfl
     case c3 => unfold maxLen; simp; omega
     case c4 => simp; omega
     case c5 => have := HBa.out.size; simp; omega
     intro v' w4 hown' hgr _
     have HN : Hid (QuI w w1.heap.size s (k + 1) v' w4) := Lib.hid ⟨by omega, (HX2.out.bel.alloc HX2.out.bel.size _).grown hgr (by have := HX2.out.bel.size; simp; omega) (fun j hj => (HX2.out.own.lt j hj).1), HX2.out.ge, blk_grown (blk_alloc HX2.out.set _) hgr (own_neK HX2.out.own HX2.out.set (by decide)), by rw [HTN.out, HQ1.out, List.length_append, List.map_append]; exact hown'⟩
     clear hown' hgr
     go_wp2
     exact ⟨⟨k + 1, by go_num, HN.out⟩, by simp [intOf]; omega⟩
  ·have hke : k = s.size := by omega
   have HQ : Hid (quoteL ((bys s).take k) = quoteL (bys s)) := Lib.hid (by rw [List.take_of_length_le (by rw [bys_length]; omega)])
   have HSL : Hid (Sl wr (.slice a0 (quoteL ((bys s).take k)).length cap0) (quoteL ((bys s).take k))) := Lib.hid (slOwnedM HI.out.own (by rw [HQ.out]; exact quote_byt (bys_byt s)) (by omega))
   have hcv := conv_string HSL.out
   clear hke
   go_wp2
   go_ret
   exact ⟨by rw [← HQ.out]; rfl, HI.out.bel⟩
end Go.Proofs.YtopnckfmdjhbjaaGreatDoor
