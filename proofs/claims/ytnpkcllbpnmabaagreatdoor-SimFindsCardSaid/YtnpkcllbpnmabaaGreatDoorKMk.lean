import Derived.Test.YtnpkcllbpnmabaaGreatDoorKSy
import Derived.Test.YtnpkcllbpnmabaaGreatDoorScDigits
import Derived.ChangeSlices
import Derived.ProofKit
import Derived.Deep.Slices
import Derived.Below
import Derived.SizedLaws
import Derived.Lib.LaidTab
import Derived.LaidMore
import Derived.Stop.LaidErr
import Derived.ChangeMaps5
import Derived.Test.YtnpkcllbpnmabaaGreatDoorKSet
import Derived.BigRegion
import Derived.Test.YtnpkcllbpnmabaaGreatDoorKRdr
namespace Go.Proofs.YtnpkcllbpnmabaaGreatDoor
open Go.RowKit
theorem owns_belowS {w w' : World} {B : Nat} {e : TypeId} {k : Nat} {v : Value} {n : Nat} {xs : List Value} (h : w.ownsRow B e k v n xs) (hb : Below w.heap.size w w') : w'.ownsRow B e k v n xs := by
 obtain ⟨h1, h2 | ⟨g, cap, cur, rfl, h3, h4, h5⟩⟩ := h
 ·exact ⟨h1, .inl h2⟩
 ·have hlt : g < w.heap.size := by
   rcases Nat.lt_or_ge g w.heap.size with h' | h'
   ·exact h'
   ·rw [Array.getElem?_eq_none h'] at h4; cases h4
  exact ⟨h1, .inr ⟨g, cap, cur, rfl, h3, by rw [hb.block g hlt]; exact h4, h5⟩⟩
def cnE (s : ByteArray) : Nat → Nat → Option Nat
 | 0, _ => none
 | n + 1, k => if atB s k = 58 ∧ atB s (k + 1) = 93 then some k else cnE s n (k + 1)
def cnN (s : ByteArray) (k : Nat) : ByteArray := match cnE s (s.size - k) k with | some e => s.extract k e | none => ⟨#[]⟩
theorem atB_out {s : ByteArray} {k : Nat} (h : s.size ≤ k) : atB s k = 0 := by
 unfold atB
 rw [List.getD, List.getElem?_eq_none (by rw [bys_length]; exact h)]
 rfl
theorem atB_in {s : ByteArray} {k : Nat} (h : atB s k ≠ 0) : k < s.size := by
 rcases Nat.lt_or_ge k s.size with h' | h'
 ·exact h'
 ·exact absurd (atB_out h') h
theorem Mv.grown {w wr w4 : World} {cb k : Nat} {s : ByteArray} {row : Option Nat} (h : Mv cb s k w wr) (hcb : cb < w.heap.size) (hg : wr.grownBy w4 row) (hr : ∀ j, row = some j → w.heap.size ≤ j) : Mv cb s k w w4 := by
 have hz := h.1.size
 have hk : ∀ i, i < w.heap.size → w4.heap[i]? = wr.heap[i]? := fun i hi => hg.block i (by omega) (fun e => by have := hr i e.symm; omega)
 exact ⟨h.1.grown hg (by omega) (fun j hj => by have := hr j hj; omega), ⟨(hk cb hcb).trans h.2.1.1, h.2.1.2⟩, fun i hi hb => (hk i hi).trans (h.2.2 i hi hb)⟩
theorem Mv.alo {w wr : World} {cb k : Nat} {s : ByteArray} (h : Mv cb s k w wr) (o : Obj) : Mv cb s k w (wr.alloc o) :=
 h.trans (Mv.below h.2.1 ((Below.refl _ _).alloc (Nat.le_refl _) _))
theorem own_mv {w w' : World} {cb k B : Nat} {s : ByteArray} {e : TypeId} {z n : Nat} {v : Value} {xs : List Value} (h : w.ownsRow B e z v n xs) (hm : Mv cb s k w w') (hB : cb < B) : w'.ownsRow B e z v n xs := by
 obtain ⟨h1, h2 | ⟨g, cap, cur, rfl, h3, h4, h5⟩⟩ := h
 ·exact ⟨h1, .inl h2⟩
 ·have hlt : g < w.heap.size := by
   rcases Nat.lt_or_ge g w.heap.size with h' | h'
   ·exact h'
   ·rw [Array.getElem?_eq_none h'] at h4; cases h4
  exact ⟨h1, .inr ⟨g, cap, cur, rfl, h3, (hm.2.2 g hlt (by omega)).trans h4, h5⟩⟩
theorem take_snoc (s : ByteArray) (k m : Nat) (h : k + m < s.size) : ((bys s).drop k).take (m + 1) = ((bys s).drop k).take m ++ [atB s (k + m)] := by
 have hl : m < ((bys s).drop k).length := by rw [List.length_drop, bys_length]; omega
 rw [List.take_add_one, List.getElem?_eq_getElem hl]
 have : ((bys s).drop k)[m] = atB s (k + m) := by
  rw [atL]
  simp [List.getD, List.getElem?_eq_getElem hl]
 rw [this]
 rfl
theorem byt_cut (s : ByteArray) (k m : Nat) : Byt (((bys s).drop k).take m) := by
 have := bys_byt (s.extract k (k + m))
 rwa [bys_extract, Nat.add_sub_cancel_left] at this
theorem own_shapeC {w : World} {base : Nat} {e : TypeId} {v : Value} {n : Nat} {xs : List Value} (h : w.ownsRow base e 1 v n xs) : xs.length = n ∧ ∃ a0 cap, v = .slice a0 n cap := by
 obtain ⟨h1, ⟨rfl, rfl⟩ | ⟨g, cap, cur, rfl, _⟩⟩ := h
 ·exact ⟨by simpa using h1, none, 0, rfl⟩
 ·exact ⟨by simpa using h1, _, cap, rfl⟩
set_option maxRecDepth 100000 in
set_option maxHeartbeats 16000000 in
theorem cname_any (rb cb : Nat) (s : ByteArray) (k ah : Nat) (lg : Int) (w : World) (hb47 : s.size ≤ 140737488351232) (h : Rdr w rb cb s k ah lg) :
  Calls Tryz.prog 109 #[.pointer (some ⟨rb, 0, none⟩)] w fun e w' => ∃ k', e = .returned (.string (cnN s k)) ∧ Mv cb s k' w w' ∧ (∀ x, cnE s (s.size - k) k = some x → k' = x + 2) := by
 obtain ⟨i0, hi, hz0, hz1, hz2⟩ := info_parts byte_row
 have HH := Lib.hid h
 have hks := h.2.1.2.1
 have hss := h.2.1.2.2
 have hlt := h.lt
 clear h
 go_enter Tryz.func109, Tryz.ntmps109
 go_wp2_with fail
 go_loopw [3] (fun v wr => ∃ m : Nat, k + m ≤ s.size ∧ Mv cb s (k + m) w wr ∧ wr.ownsRow w.heap.size 5 1 v m ((((bys s).drop k).take m).map (Value.int .u8)) ∧ cnE s (s.size - k) k = cnE s (s.size - (k + m)) (k + m)) (fun _ wr => match wr.cell? ⟨cb, 1, none⟩ with | some (.int _ n) => s.size - n.toNat | _ => 0)
 case atStart => exact ⟨0, by omega, Mv.refl HH.out.2.1, by simpa using World.ownsRow_nil w w.heap.size 5 1, rfl⟩
 case round =>
  obtain ⟨m, hm, hmv, hown, hcn⟩ := hrel
  have HM := Lib.hid hmv
  have HR := Lib.hid (HH.out.mv hmv)
  have HO := Lib.hid hown
  have HC := Lib.hid hcn
  have hms := hmv.cur.facts.2.1
  have HS1 := Lib.hid hms
  obtain ⟨q0, q1, q2, qz⟩ := HR.out.facts
  have hsz := hmv.1.size
  have hz := hmv.1.size
  clear hmv hown hcn hms hsz hz
  by_cases hend : atB s (k + m) = 58 ∧ atB s (k + m + 1) = 93
  ·have HT := Lib.hid (take2_yes cb (k + m) s 58 93 wr HR.out.2.1 (by decide) (by decide) hend.1 hend.2)
   have hin := atB_in (s := s) (k := k + m) (by rw [hend.1]; decide)
   have HE : Hid (cnE s (s.size - k) k = some (k + m)) := Lib.hid (by
    rw [HC.out, show s.size - (k + m) = (s.size - (k + m) - 1) + 1 by omega]
    unfold cnE
    rw [if_pos hend])
   clear hend
   go_wp2_with fail
   refine HT.out.mono ?_
   rintro e w1 ⟨rfl, hm1⟩
   have HM1 := Lib.hid (HM.out.trans hm1)
   have HO1 := Lib.hid (own_mv HO.out hm1 (by omega))
   clear hm1
   have HSl := Lib.hid (slOwnedM HO1.out (byt_cut s k m) (by rw [List.length_take, List.length_drop, bys_length]; omega))
   obtain ⟨_, a0, cap, rfl⟩ := own_shapeC HO1.out
   have hc := conv_string HSl.out
   go_wp2
   go_ret
   refine ⟨k + m + 2, ?_, HM1.out, fun x hx => by rw [HE.out] at hx; have := Option.some.inj hx; omega⟩
   show Ending.returned (Value.string (ofBys (((bys s).drop k).take m))) = _
   unfold cnN
   rw [HE.out]
   simp only
   rw [← ofBys_bys (s.extract k (k + m)), bys_extract, Nat.add_sub_cancel_left]
  ·have HT := Lib.hid (take2_no cb (k + m) s 58 93 wr HR.out.2.1 (by decide) (by decide) hend)
   go_wp2_with fail
   refine HT.out.mono ?_
   rintro e w1 ⟨rfl, hm1⟩
   have HM1 := Lib.hid (HM.out.trans hm1)
   have HO1 := Lib.hid (own_mv HO.out hm1 (by omega))
   have HR1 := Lib.hid (HR.out.mv hm1)
   obtain ⟨p0, p1, p2, pz⟩ := HR1.out.facts
   have hsz1 := hm1.1.size
   clear hm1
   by_cases hin : k + m < s.size
   ·have HN : Hid (Calls Tryz.prog 71 #[.pointer (some ⟨cb, 0, none⟩)] w1 fun e w'' => e = .returned (.tuple #[.int .u8 (atB s (k + m)), .bool true]) ∧ Mv cb s (k + m + 1) w1 w'') := Lib.hid (by
     have := next_any cb (k + m) s w1 HR1.out.2.1
     rw [if_pos hin, decide_eq_true hin] at this
     exact this)
    have HE : Hid (cnE s (s.size - (k + m)) (k + m) = cnE s (s.size - (k + (m + 1))) (k + (m + 1))) := Lib.hid (by
     conv => lhs; rw [show s.size - (k + m) = (s.size - (k + (m + 1))) + 1 by omega]; unfold cnE
     rw [if_neg hend]
     rfl)
    have HY := Lib.hid (take_snoc s k m hin)
    clear hend
    generalize atB s (k + m) = c at *
    go_wp2_with fail
    refine HN.out.mono ?_
    rintro e w2 ⟨rfl, hm2⟩
    have HM2 := Lib.hid (HM1.out.trans hm2)
    have HO2 := Lib.hid (own_mv HO1.out hm2 (by omega))
    have hsz2 : w.heap.size ≤ w2.heap.size := HM2.out.1.size
    clear hm2
    go_wp2_with (at_builtin; refine wpList_append_own _ rfl _ _ 25 rfl w.heap.size 5 i0 (.int .u8 0) 1 1 Tryz.underlying25 hi hz0 hz1 hz2 rfl (by decide) _ _ _ rfl (HO2.out.alloc _) ⟨w2.heap.size, 0, none⟩ 1 1 [.int .u8 c] rfl rfl ?c1 ?c2 ?c3 ?c4 ?c5 ?_)
    case c1 =>
     intro j u hj
     match j, hj with
     | 0, hj => simp at hj; subst hj; simp [Addr.add]
    case c2 => intro u hu; simp at hu; subst hu; rfl
    case c3 => unfold maxLen; omega
    case c4 => omega
    case c5 => simp; omega
    intro v' w4 hown' hgrow _
    have HN4 : Hid (w4.ownsRow w.heap.size 5 1 v' (m + 1) ((((bys s).drop k).take (m + 1)).map (Value.int .u8))) := Lib.hid (by rw [HY.out]; simpa using hown')
    have HG : Hid (Mv cb s (k + m + 1) w w4) := Lib.hid ((HM2.out.alo _).grown hlt.2 hgrow (fun j hj => (HO2.out.lt j hj).1))
    clear hown' hgrow
    go_wp2
    refine ⟨⟨m + 1, by omega, HG.out, HN4.out, HC.out.trans HE.out⟩, ?_⟩
    rw [HG.out.cur.facts.2.1, HS1.out]
    simp only
    omega
   ·have hks' : k + m = s.size := by omega
    have HN : Hid (Calls Tryz.prog 71 #[.pointer (some ⟨cb, 0, none⟩)] w1 fun e w'' => e = .returned (.tuple #[.int .u8 0, .bool false]) ∧ Mv cb s (k + m) w1 w'') := Lib.hid (by
     have := next_any cb (k + m) s w1 HR1.out.2.1
     rw [if_neg hin, decide_eq_false hin, atB_out (by omega)] at this
     exact this)
    have HE : Hid (cnE s (s.size - k) k = none) := Lib.hid (by rw [HC.out, hks', Nat.sub_self]; rfl)
    clear hend
    go_wp2_with fail
    refine HN.out.mono ?_
    rintro e w2 ⟨rfl, hm2⟩
    have HM2 := Lib.hid (HM1.out.trans hm2)
    clear hm2
    go_wp2
    go_ret
    exact ⟨k + m, by unfold cnN; rw [HE.out]; rfl, HM2.out, fun x hx => by rw [HE.out] at hx; cases hx⟩
end Go.Proofs.YtnpkcllbpnmabaaGreatDoor
