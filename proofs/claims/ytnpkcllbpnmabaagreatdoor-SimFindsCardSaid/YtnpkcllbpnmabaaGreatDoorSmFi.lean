import Derived.Test.YtnpkcllbpnmabaaGreatDoorKSt
import Derived.Test.YtnpkcllbpnmabaaGreatDoorKRq
import Derived.Test.YtnpkcllbpnmabaaGreatDoorScConv
import Derived.Laws.AppendOwn
import Derived.Deep.LoopGhost
import Derived.Deep.CutRange
import Derived.Deep.CutBlock
namespace Go.Proofs.YtnpkcllbpnmabaaGreatDoor
open Go.RowKit
theorem tl_someF {s : ByteArray} (h : ¬ s = ⟨#[]⟩) : s.toList.isEmpty = false := by
 rw [ByteArray.toList_eq, List.isEmpty_eq_false_iff]
 intro e
 apply h
 cases s with
 | mk d =>
  have : d = #[] := by simpa using e
  rw [this]
theorem quo1_leF (ext : Bool) (c : Int) : (quo1 ext c).length ≤ 2 := by unfold quo1; (repeat' split) <;> simp
theorem quoR_leF (ext : Bool) : ∀ l : List Int, (quoR ext l).length ≤ 2 * l.length
 | [] => by simp [quoR]
 | c :: l => by
  rw [quoR_cons, List.length_append, List.length_cons]
  have := quo1_leF ext c
  have := quoR_leF ext l
  omega
theorem conv_slF (w : World) (s : ByteArray) (hs : s.size ≤ 9223372036854775807) : ∃ cap W1, (convert 9 25 (.string s)).run Tryz.prog w = .ok (.slice (some ⟨w.heap.size, 0, none⟩) s.size cap) W1 ∧ Sl W1 (.slice (some ⟨w.heap.size, 0, none⟩) s.size cap) (bys s) ∧ Below w.heap.size w W1 ∧ w.heap.size < W1.heap.size := by
 have h1 := run_bytes_of_string (P := Tryz.prog) w 9 25 5 s Tryz.underlying9 Tryz.underlying25 Tryz.underlying5
 obtain ⟨cap, W1, h2, h3, h4⟩ := conv_sl w s hs
 refine ⟨cap, W1, h2, h3, h4, ?_⟩
 rw [h2] at h1
 simp only [Result.ok.injEq] at h1
 rw [h1.2]
 simp
theorem oc_ext {o s : ByteArray} {i : Nat} (h : i + s.size ≤ o.size) : ((o.extract i (i + s.size)).toList == s.toList) = oc (bys o) (bys s) i := by
 have e1 : bys (o.extract i (i + s.size)) = ((bys o).drop i).take (bys s).length := by rw [bys_extract, bys_length, Nat.add_sub_cancel_left]
 rw [Bool.eq_iff_iff, beq_iff_eq]
 unfold oc
 rw [decide_eq_true_iff, ← e1, bys_length, bys_length]
 constructor
 ·intro h2
  rw [ByteArray.toList_eq, ByteArray.toList_eq] at h2
  refine ⟨h, ?_⟩
  unfold bys
  rw [h2]
 ·rintro ⟨_, h2⟩
  rw [bys_inj h2]
def LitQ (s : List Int) (w : World) (x : Ending) (w' : World) : Prop := Below w.heap.size w w' ∧ (x = .returned (.pointer none) ∨ ∃ gb, x = .returned (.pointer (some ⟨gb, 0, none⟩)) ∧ AutA gb (litT s).G.2 (litT s).G.1 w')
theorem build_lit (cf : ByteArray → (Nat → Bool) × Bool) (hcf : ClassOk cf) (e : Nat → Addr) (bv : Value) (s : ByteArray) (ext : Bool) (w : World) (hs : Snt w e) (he : Es w w.heap.size e) (ht : Ety w) (hne : bys s ≠ []) (hsl : Sl w bv (quoR ext (bys s))) (hnb : BelV bv w.heap.size) :
  Calls Tryz.prog 5 #[bv, .bool ext] w (LitQ (bys s) w) := by
 by_cases h256 : 256 < (quoR ext (bys s)).length
 ·have hr : parseN cf (quoR ext (bys s)) ext 0 = some (.bad 2 0) := by unfold parseN; rw [if_pos h256]
  exact (sbuild_any cf e bv _ (bkC_of hcf _) ext 0 _ w hs he ht hsl hnb hr).mono fun x w' hq => ⟨hq.1, Or.inl hq.2⟩
 ·obtain ⟨k, hk⟩ := parse_quo cf ext (bys s) hne (by omega)
  have hT : (joinN 4 ((bys s).map fun c => setN (mem [c]))) = litT (bys s) := rfl
  rw [hT] at hk
  refine (sbuild_any cf e bv _ (bkC_of hcf _) ext _ _ w hs he ht hsl hnb hk).mono fun x w' hq => ⟨hq.1, ?_⟩
  have h2 := hq.2
  dsimp only at h2
  split at h2
  ·obtain ⟨gb, h3, h4⟩ := h2
   exact Or.inr ⟨gb, h3, h4⟩
  ·exact Or.inl h2
set_option maxRecDepth 100000 in
set_option maxHeartbeats 16000000 in
theorem sfinds_any (cf : ByteArray → (Nat → Bool) × Bool) (hcf : ClassOk cf) (e : Nat → Addr) (s o : ByteArray) (ext : Bool) (w : World) (hs : Snt w e) (he : Es w w.heap.size e) (ht : Ety w) :
  Calls Tryz.prog 3 #[.string s, .string o, .bool ext] w fun x w' => x = .returned (.bool true) ∧ Below w.heap.size w w' := by
 have HAW : Hid (∀ X, Below w.heap.size w X → Calls Tryz.prog 4 #[] X fun x w' => x = .returned (.bool true) ∧ Below X.heap.size X w') := Lib.hid (fun X hX => awake10_any e X (hs.below hX) ⟨(he.below hX).var, Nat.lt_of_lt_of_le he.low hX.size, Nat.le_refl _⟩ (ht.below hX))
 have HBU : Hid (∀ X bv, Below w.heap.size w X → bys s ≠ [] → Sl X bv (quoR ext (bys s)) → BelV bv X.heap.size → Calls Tryz.prog 5 #[bv, .bool ext] X (LitQ (bys s) X)) := Lib.hid (fun X bv hX h1 h2 h3 => build_lit cf hcf e bv s ext X (hs.below hX) ⟨(he.below hX).var, Nat.lt_of_lt_of_le he.low hX.size, Nat.le_refl _⟩ (ht.below hX) h1 h2 h3)
 have HB0 : Hid (Below w.heap.size w w) := Lib.hid (Below.refl _ _)
 obtain ⟨bb, hbb⟩ : ∃ bb, bb = decide (s = ⟨#[]⟩ ∨ 60 < s.size ∨ 200 < o.size) := ⟨_, rfl⟩
 have HBB := Lib.hid hbb
 clear hs he ht hbb
 go_enter Tryz.func3, Tryz.ntmps3
 go_upto_region 1 with fail
 go_cut [24] (fun s24 X => s24 = .bool bb ∧ X = w)
 case first =>
  by_cases c0 : s = ⟨#[]⟩
  ·subst c0
   go_wp2_with fail
   go_meet
   exact ⟨by rw [HBB.out]; simp, rfl⟩
  ·have d0 := tl_someF c0
   by_cases c1 : 60 < s.size
   ·have d1 : (60 : Int) < (s.size : Int) := by omega
    go_wp2_with fail
    go_meet
    exact ⟨by rw [HBB.out]; simp [c1], rfl⟩
   ·have d1 : ¬ (60 : Int) < (s.size : Int) := by omega
    by_cases c2 : 200 < o.size
    ·have d2 : (200 : Int) < (o.size : Int) := by omega
     go_wp2_with fail
     go_meet
     exact ⟨by rw [HBB.out]; simp [c2], rfl⟩
    ·have d2 : ¬ (200 : Int) < (o.size : Int) := by omega
     go_wp2_with fail
     go_meet
     exact ⟨by rw [HBB.out, decide_eq_false (by simp [c0]; omega)], rfl⟩
 obtain ⟨rfl, rfl⟩ := hcut
 cases bb with
 | true =>
  go_wp2_with fail
  refine (HAW.out wc HB0.out).mono ?_
  rintro x w9 ⟨rfl, hb9⟩
  have HB10 := Lib.hid ((HB0.out).trans (hb9.mono (HB0.out).size))
  clear hb9
  go_wp2
  go_ret
  exact ⟨rfl, HB10.out⟩
 | false =>
  have hcnd := of_decide_eq_false HBB.out.symm
  have hs60 : s.size ≤ 60 := by omega
  have ho200 : o.size ≤ 200 := by omega
  have hne : bys s ≠ [] := fun h => hcnd (Or.inl (bys_inj (h.trans rfl)))
  clear hcnd HBB
  have HQ := Lib.hid (rquote_any s ext wc (by omega))
  have hqb : Byt (quoR ext (bys s)) := quoR_byt (bys_byt s) ext
  have hqz : (ofBys (quoR ext (bys s))).size = (quoR ext (bys s)).length := ofBys_size _
  have hq2 := quoR_leF ext (bys s)
  rw [bys_length] at hq2
  have hbo : bys (ofBys (quoR ext (bys s))) = quoR ext (bys s) := bys_ofBys hqb
  go_wp2_with fail
  refine HQ.out.mono ?_
  rintro x w1 ⟨rfl, hb1⟩
  have HB1 := Lib.hid hb1
  clear hb1 HQ
  obtain ⟨qc, W2, hcv, hsl2, hb2, hcz⟩ := conv_slF w1 (ofBys (quoR ext (bys s))) (by omega)
  have HB2 := Lib.hid (below_thn HB1.out (Nat.le_refl _) hb2)
  have HBX := Lib.hid (HBU.out W2 _ HB2.out hne (by rw [← hbo]; exact hsl2) (fun x o n cap hv => by
   simp only [Value.slice.injEq, Option.some.injEq, Addr.mk.injEq] at hv
   omega))
  have HNE := Lib.hid hne
  clear hsl2 hb2 hcz HBU hqb hqz hq2 hbo hne
  go_wp2_with fail
  refine HBX.out.mono ?_
  rintro x w3 ⟨hb3, (rfl | ⟨gb, rfl, hA⟩)⟩
  ·have HB3 := Lib.hid (below_thn HB2.out (Nat.le_refl _) hb3)
   clear hb3 hcv
   go_wp2_with fail
   refine (HAW.out w3 HB3.out).mono ?_
   rintro x w9 ⟨rfl, hb9⟩
   have HB10 := Lib.hid ((HB3.out).trans (hb9.mono (HB3.out).size))
   clear hb9
   go_wp2
   go_ret
   exact ⟨rfl, HB10.out⟩
  have HB3 := Lib.hid (below_thn HB2.out (Nat.le_refl _) hb3)
  have HA := Lib.hid hA
  clear hb3 hcv hA HBX
  have HLP := Lib.hid (litP_ask HA.out (bys_byt o) (bys_byt s) HNE.out)
  obtain ⟨L, hL⟩ := allQ_some (askP_ok HA.out (bys o)) (2 * (bys o).length + 4) 0 none (fun x hx => by cases hx) (by omega) (by rw [if_neg (by simp)]; omega)
  have hLL := allQ_len _ _ _ _ hL
  rw [bys_length] at hLL
  have HL := Lib.hid hL
  obtain ⟨P, hP⟩ : ∃ P, P = askP (litT (bys s)).G.1 (litT (bys s)).G.2 (bys o) := ⟨_, rfl⟩
  rw [← hP] at HLP HL
  have HPE := Lib.hid hP
  clear hL hP
  have hs0 : 0 < s.size := by
   have := List.length_pos_iff.2 HNE.out
   rw [bys_length] at this
   exact this
  obtain ⟨i0, z0, hi0, hz0, hz1, hz2, hz3⟩ := sp_parts
  have HG0 : Hid (Gat P (bys o) (bys s) 0 (2 * (bys o).length + 4) 0 none L) := Lib.hid ⟨Nat.le_refl _, fun x h1 h2 => by omega, HL.out⟩
  go_wp2_with fail
  go_loopg [8, 9] (o.size + 1) (fun gh s8 s9 X => ∃ (i k a : Nat) (q : Option Nat) (want rest : Th) (va : Option Addr) (vc : Nat), gh = o.size + 1 - i ∧ i ≤ o.size ∧ s8 = .slice va want.length vc ∧ s9 = .int .i64 (i : Nat) ∧ L = want ++ rest ∧ Aside (Gat P (bys o) (bys s) i k a q rest ∧ X.ownsRow w3.heap.size 29 2 (.slice va want.length vc) want.length (rowT want) ∧ Below w3.heap.size w3 X))
  case atStart => exact ⟨0, _, 0, none, [], L, none, 0, rfl, Nat.zero_le _, rfl, rfl, rfl, HG0.out, World.ownsRow_nil _ _ _ _, Below.refl _ _⟩
  case round =>
   obtain ⟨i, k, a, q, want, rest, va, vc, hgh, hi, rfl, rfl, hLw, hal⟩ := hrel
   have HGH := Lib.hid hgh
   have HLW := Lib.hid hLw
   have HGA := Lib.hid hal.out.1
   have HROW := Lib.hid hal.out.2.1
   have HBX := Lib.hid hal.out.2.2
   have hwl : want.length ≤ 404 := by
    have := congrArg List.length hLw
    rw [List.length_append] at this
    omega
   clear hgh hLw hal
   have hx1 : (i : Int) + (s.size : Int) ≤ 9223372036854775807 := by omega
   have hx0 : -9223372036854775808 ≤ (i : Int) + (s.size : Int) := by omega
   by_cases hle : i + s.size ≤ o.size
   ·have hle' : (i : Int) + (s.size : Int) ≤ (o.size : Int) := by omega
    have h0i : (0 : Int) ≤ (i : Int) := by omega
    have hii : (i : Int) ≤ (i : Int) + (s.size : Int) := by omega
    have hoc := oc_ext hle
    cases hc : oc (bys o) (bys s) i with
    | true =>
     rw [hc] at hoc
     obtain ⟨rest', k', hre, hga⟩ := HGA.out.hit HLP.out HNE.out hc
     rw [bys_length] at hre hga
     have HLW' : Hid (L = (want ++ [(i, i + s.size)]) ++ rest') := Lib.hid (by rw [HLW.out, hre]; simp)
     have HGA' := Lib.hid hga
     clear hre hga hc HLW HGA
     go_wp2_with (at_builtin; refine wpList_append_own _ rfl (.tmp 51) (.tmp 58) 27 rfl w3.heap.size 29 i0 z0 2 16 Tryz.underlying27 hi0 hz0 hz1 hz2 hz3 (by decide) (.slice va want.length vc) want.length (rowT want) rfl (own_drop HROW.out ((Below.refl _ _).alloc (Nat.le_refl _) _)) ⟨wr.heap.size, 0, none⟩ 1 1 (thC (i, i + s.size)) rfl rfl ?n1 (thC_one _) ?n2 ?n3 ?n4 ?nx)
     case n1 => exact news_sm (cs := [.int .i64 (i : Nat), .int .i64 ((i : Int) + (s.size : Int))]) (alloc_last wr _)
     case n2 => unfold maxLen; omega
     case n3 => omega
     case n4 => exact Nat.le_trans HBX.out.size (((Below.refl wr.heap.size wr).alloc (Nat.le_refl _) _).size)
     case nx =>
      intro v' W5 hown hgr _
      have hb4 : Below wr.heap.size wr (wr.alloc (.cells #[.int .i64 (i : Nat), .int .i64 ((i : Int) + (s.size : Int))] 29)) := (Below.refl _ _).alloc (Nat.le_refl _) _
      have hr4 := own_drop HROW.out hb4
      obtain ⟨b', cap', rfl⟩ := own_some hown (by omega)
      have HR5 : Hid (W5.ownsRow w3.heap.size 29 2 (.slice (some ⟨b', 0, none⟩) (want ++ [(i, i + s.size)]).length cap') (want ++ [(i, i + s.size)]).length (rowT (want ++ [(i, i + s.size)]))) := Lib.hid (by
       rw [List.length_append, List.length_singleton, rowT_app]
       exact hown)
      have HBX5 : Hid (Below w3.heap.size w3 W5) := Lib.hid (HBX.out.trans ((hb4.mono HBX.out.size).trans (below_grown hr4 hgr (Nat.le_refl _) (Nat.le_trans HBX.out.size hb4.size))))
      clear hown hgr hb4 hr4 hoc
      go_wp2_with fail
      go_roundg (o.size + 1 - (i + s.size))
      case measure => have := HGH.out; omega
      case rel => exact ⟨i + s.size, k', i + s.size, some (i + s.size), want ++ [(i, i + s.size)], rest', some ⟨b', 0, none⟩, cap', rfl, hle, by simp, by simp, HLW'.out, HGA'.out, HR5.out, HBX5.out⟩
    | false =>
     rw [hc] at hoc
     have HGA' := Lib.hid (HGA.out.miss hc)
     have hy1 : (i : Int) + 1 ≤ 9223372036854775807 := by omega
     have hy0 : -9223372036854775808 ≤ (i : Int) + 1 := by omega
     clear hc HGA
     go_wp2_with fail
     go_roundg (o.size + 1 - (i + 1))
     case measure => have := HGH.out; omega
     case rel => exact ⟨i + 1, k, a, q, want, rest, va, vc, rfl, by omega, rfl, by simp, HLW.out, HGA'.out, HROW.out, HBX.out⟩
   ·have hle' : ¬ (i : Int) + (s.size : Int) ≤ (o.size : Int) := by omega
    have hrest := HGA.out.done HLP.out (by rw [bys_length, bys_length]; omega)
    subst hrest
    have hLe : L = want := HLW.out.trans (List.append_nil _)
    subst hLe
    have HB3r : Hid (Below wc.heap.size wc wr) := Lib.hid (below_thn HB3.out (Nat.le_refl _) HBX.out)
    have hAr := HA.out.below HBX.out
    clear HGA HLW HGH
    obtain ⟨⟨hx, vx⟩, hR⟩ : ∃ R, R = askF ((litT (bys s)).G.1, (litT (bys s)).G.2) (bys o) 0 1 := ⟨_, rfl⟩
    have hp0 : P 0 = hx := by rw [HPE.out]; exact congrArg Prod.fst hR.symm
    have hlx : (hx = none ∧ L = []) ∨ ∃ p L', hx = some p ∧ L = p :: L' := by
     rw [← hp0]
     rcases allQ_go (k := 2 * (bys o).length + 3) HL.out with ⟨h1, h2⟩ | ⟨p, h1, ⟨e, _⟩ | ⟨_, L', e1, _⟩⟩
     ·exact Or.inl ⟨h1, h2⟩
     ·cases e
     ·exact Or.inr ⟨p, L', h1, e1⟩
    obtain ⟨oc1, W4, hcv4, hsl4, hb4⟩ := conv_sl wr o (by omega)
    have HSE := ssearch_any gb (litT (bys s)).G.2 (litT (bys s)).G.1 _ (bys o) 0 W4 (hAr.below hb4) hsl4 (by rw [bys_length]; omega)
    rw [← hR] at HSE
    obtain ⟨s0, ex0, _, _, hval⟩ := hitC_parts hx
    rw [hval] at HSE
    have HSE := Lib.hid HSE
    have HB4 := Lib.hid hb4
    have HAr := Lib.hid hAr
    have HVAL := Lib.hid hval
    obtain ⟨kx, hkx⟩ : ∃ kx, kx = hx.isSome := ⟨_, rfl⟩
    rw [← hkx] at HSE
    have HKX := Lib.hid hkx
    have HLX := Lib.hid hlx
    clear hsl4 hb4 hR hp0 hlx hval hAr hkx
    go_wp2_with fail
    refine HSE.out.mono ?_
    rintro x W5 ⟨rfl, hb5⟩
    have HB5 : Hid (Below wr.heap.size wr W5) := Lib.hid (HB4.out.trans (hb5.mono HB4.out.size))
    clear hb5 HSE HB4 hcv4
    go_upto_region 14 with fail
    obtain ⟨W6, hW6⟩ : ∃ W6, W6 = W5.alloc (.cells #[.bool kx, .int .i64 (s0 : Nat), .int .i64 (ex0 : Nat), .int .i64 (vx : Nat)] 31) := ⟨_, rfl⟩
    have HH6 : Hid (W6.heap[W5.heap.size]? = some (.cells #[.bool kx, .int .i64 (s0 : Nat), .int .i64 (ex0 : Nat), .int .i64 (vx : Nat)] 31 (0, 0))) := Lib.hid (by rw [hW6]; exact alloc_last W5 _)
    have HB6 : Hid (Below wr.heap.size wr W6) := Lib.hid (by rw [hW6]; exact HB5.out.alloc HB5.out.size _)
    rw [← hW6]
    clear hW6 HB5
    generalize W5.heap.size = gH at *
    obtain ⟨oc2, W7, hcv7, hsl7, hb7⟩ := conv_sl W6 o (by omega)
    have HALL := Lib.hid (sall_any gb (litT (bys s)).G.2 (litT (bys s)).G.1 _ (bys o) W7 ((HAr.out.below HB6.out).below hb7) hsl7 (by rw [bys_length]; omega))
    have HH7 := Lib.hid (blk_below HH6.out hb7)
    have HB7 : Hid (Below wr.heap.size wr W7) := Lib.hid (HB6.out.trans (hb7.mono HB6.out.size))
    clear hsl7 hb7 HH6 HB6
    go_wp2_with fail
    refine HALL.out.mono ?_
    rintro x W8 ⟨L2, k2, va2, vc2, hall2, _, rfl, hrow2, hb8⟩
    have e2 : L = L2 := (allQ_det _ _ _ _ _ _ hall2 (by rw [← HPE.out]; exact HL.out)).symm
    subst e2
    have HB8 : Hid (Below wr.heap.size wr W8) := Lib.hid (HB7.out.trans (hb8.mono HB7.out.size))
    have HH8 := Lib.hid (blk_below HH7.out hb8)
    have HR1 := Lib.hid (own_drop HROW.out HB8.out)
    have HR2 := Lib.hid hrow2
    clear hall2 hrow2 hb8 HALL HH7 HB7 hcv7 HROW
    have HBC8 : Hid (Below wc.heap.size wc W8) := Lib.hid (below_thn HB3r.out (Nat.le_refl _) HB8.out)
    clear HB8 HA HAr HB1 HB2 HB3 HB3r HBX HPE HL
    rcases HLX.out with ⟨hx0, hL0⟩ | ⟨p, L', hx1, hL1⟩
    ·obtain rfl : kx = false := by rw [HKX.out, hx0]; rfl
     have HLD : Hid (decide (0 < L.length) = false) := Lib.hid (by rw [hL0]; rfl)
     clear hx0 hL0 HKX HLX HVAL
     go_upto_region 15 with fail
     refine Reg.wp_region_vals (fun X => Below W8.drew.heap.size W8.drew X) (fun j => ([some (.pointer (some ⟨gH, 0, none⟩)), some (.bool false), some (.slice va L.length vc), some (.int .i64 (L.length : Nat)), some (.bool false), some (.bool false), some (.bool false), some (.pointer (some ⟨gH, 0, none⟩)), some (.bool false), some (.bool false), some undef, some undef, some undef, some undef, some undef, some undef, some (.bool false), some (.bool false), some (.bool false), some (.slice va2 L.length vc2), some (.int .i64 (L.length : Nat)), some (.slice va L.length vc), some (.int .i64 (L.length : Nat)), some (.bool false), some (.bool false)] : List (Option Value)).getD j none) (fun _ _ _ => True) (by kernel_rfl) (by kernel_rfl) (by kernel_rfl) (by kernel_rfl) ?rs0 ?rsE ?rsZ
     case rs0 => exact Below.refl _ _
     case rsE =>
      refine Reg.EachV.plain rfl (fun T X hS hk K hK => ?_) ?_
      ·skip
       have g10 := hk.old 10 (by kernel_rfl) rfl
       have hK := hK _ X hS (Reg.Is.of_val rfl) (fun _ _ _ h => h)
       clear hk
       go_simp
       exact hK
      refine Reg.EachV.plain rfl (fun T X hS hk K hK => ?_) ?_
      ·skip
       have g74 := hk.val 0 74 (by kernel_rfl) (by kernel_rfl) rfl
       have hh := blk_below HH8.out ((Below.refl _ _).drew.trans hS)
       have r0 : X.cell? ⟨gH, 0, none⟩ = some (.bool false) := (Lib.cell_of_heap hh 0).trans rfl
       have r1 : X.cell? ⟨gH, 1, none⟩ = some (.int .i64 (s0 : Nat)) := (Lib.cell_of_heap hh 1).trans rfl
       have r2 : X.cell? ⟨gH, 2, none⟩ = some (.int .i64 (ex0 : Nat)) := (Lib.cell_of_heap hh 2).trans rfl
       have rz := lt_blkB hh
       clear hh
       have hK := hK _ X hS (Reg.Is.of_val rfl) (fun _ _ _ h => h)
       clear hk
       go_simp
       exact hK
      refine Reg.EachV.plain rfl (fun T X hS hk K hK => ?_) ?_
      ·skip
       have g8 := hk.old 8 (by kernel_rfl) rfl
       have hK := hK _ X hS (Reg.Is.of_val rfl) (fun _ _ _ h => h)
       clear hk
       go_simp
       exact hK
      refine Reg.EachV.plain rfl (fun T X hS hk K hK => ?_) ?_
      ·skip
       have g76 := hk.val 2 76 (by kernel_rfl) (by kernel_rfl) rfl
       have hK := hK _ X hS (Reg.Is.of_val rfl) (fun _ _ _ h => h)
       clear hk
       go_simp
       exact hK
      refine Reg.EachV.plain rfl (fun T X hS hk K hK => ?_) ?_
      ·skip
       have g77 := hk.val 3 77 (by kernel_rfl) (by kernel_rfl) rfl
       have hK := hK _ X hS (Reg.Is.of_val rfl) (fun _ _ _ h => h)
       clear hk
       go_simp
       rw [HLD.out]
       exact hK
      refine Reg.EachV.plain rfl (fun T X hS hk K hK => ?_) ?_
      ·skip
       have g75 := hk.val 1 75 (by kernel_rfl) (by kernel_rfl) rfl
       have g78 := hk.val 4 78 (by kernel_rfl) (by kernel_rfl) rfl
       have hK := hK _ X hS (Reg.Is.of_val rfl) (fun _ _ _ h => h)
       clear hk
       go_simp
       exact hK
      refine Reg.EachV.plain rfl (fun T X hS hk K hK => ?_) ?_
      ·skip
       have g79 := hk.val 5 79 (by kernel_rfl) (by kernel_rfl) rfl
       have hK := hK _ X hS (Reg.Is.of_val rfl) (fun _ _ _ h => h)
       clear hk
       go_simp
       exact hK
      refine Reg.EachV.guarded 6 80 false rfl (by kernel_rfl) (by kernel_rfl) rfl (fun T X hS hk K hK => ?_) ?_
      ·skip
       have g10 := hk.old 10 (by kernel_rfl) rfl
       have hK := hK _ X hS (Reg.Is.of_val rfl) (fun _ _ _ h => h)
       clear hk
       go_simp
       exact hK
      refine Reg.EachV.guarded 6 80 false rfl (by kernel_rfl) (by kernel_rfl) rfl (fun T X hS hk K hK => ?_) ?_
      ·skip
       have g81 := hk.val 7 81 (by kernel_rfl) (by kernel_rfl) rfl
       have hh := blk_below HH8.out ((Below.refl _ _).drew.trans hS)
       have r0 : X.cell? ⟨gH, 0, none⟩ = some (.bool false) := (Lib.cell_of_heap hh 0).trans rfl
       have r1 : X.cell? ⟨gH, 1, none⟩ = some (.int .i64 (s0 : Nat)) := (Lib.cell_of_heap hh 1).trans rfl
       have r2 : X.cell? ⟨gH, 2, none⟩ = some (.int .i64 (ex0 : Nat)) := (Lib.cell_of_heap hh 2).trans rfl
       have rz := lt_blkB hh
       clear hh
       have hK := hK _ X hS (Reg.Is.of_val rfl) (fun _ _ _ h => h)
       clear hk
       go_simp
       exact hK
      refine Reg.EachV.guarded 6 80 false rfl (by kernel_rfl) (by kernel_rfl) rfl (fun T X hS hk K hK => ?_) ?_
      ·skip
       have g82 := hk.val 8 82 (by kernel_rfl) (by kernel_rfl) rfl
       have hK := hK _ X hS (Reg.Is.of_val rfl) (fun _ _ _ h => h)
       clear hk
       go_simp
       exact hK
      refine Reg.EachV.passed 9 83 false rfl (by kernel_rfl) (by kernel_rfl) rfl rfl ?_
      refine Reg.EachV.passed 9 83 false rfl (by kernel_rfl) (by kernel_rfl) rfl rfl ?_
      refine Reg.EachV.passed 9 83 false rfl (by kernel_rfl) (by kernel_rfl) rfl rfl ?_
      refine Reg.EachV.passed 9 83 false rfl (by kernel_rfl) (by kernel_rfl) rfl rfl ?_
      refine Reg.EachV.passed 9 83 false rfl (by kernel_rfl) (by kernel_rfl) rfl rfl ?_
      refine Reg.EachV.passed 9 83 false rfl (by kernel_rfl) (by kernel_rfl) rfl rfl ?_
      refine Reg.EachV.guarded 6 80 false rfl (by kernel_rfl) (by kernel_rfl) rfl (fun T X hS hk K hK => ?_) ?_
      ·skip
       have g83 := hk.val 9 83 (by kernel_rfl) (by kernel_rfl) rfl
       have g89 := hk.val 15 89 (by kernel_rfl) (by kernel_rfl) rfl
       have hK := hK _ X hS (Reg.Is.of_val rfl) (fun _ _ _ h => h)
       clear hk
       go_simp
       exact hK
      refine Reg.EachV.plain rfl (fun T X hS hk K hK => ?_) ?_
      ·skip
       have g80 := hk.val 6 80 (by kernel_rfl) (by kernel_rfl) rfl
       have g90 := hk.val 16 90 (by kernel_rfl) (by kernel_rfl) rfl
       have hK := hK _ X hS (Reg.Is.of_val rfl) (fun _ _ _ h => h)
       clear hk
       go_simp
       exact hK
      refine Reg.EachV.plain rfl (fun T X hS hk K hK => ?_) ?_
      ·skip
       have g91 := hk.val 17 91 (by kernel_rfl) (by kernel_rfl) rfl
       have hK := hK _ X hS (Reg.Is.of_val rfl) (fun _ _ _ h => h)
       clear hk
       go_simp
       exact hK
      refine Reg.EachV.guarded 18 92 false rfl (by kernel_rfl) (by kernel_rfl) rfl (fun T X hS hk K hK => ?_) ?_
      ·skip
       have g11 := hk.old 11 (by kernel_rfl) rfl
       have hK := hK _ X hS (Reg.Is.of_val rfl) (fun _ _ _ h => h)
       clear hk
       go_simp
       exact hK
      refine Reg.EachV.guarded 18 92 false rfl (by kernel_rfl) (by kernel_rfl) rfl (fun T X hS hk K hK => ?_) ?_
      ·skip
       have g93 := hk.val 19 93 (by kernel_rfl) (by kernel_rfl) rfl
       have hK := hK _ X hS (Reg.Is.of_val rfl) (fun _ _ _ h => h)
       clear hk
       go_simp
       exact hK
      refine Reg.EachV.guarded 18 92 false rfl (by kernel_rfl) (by kernel_rfl) rfl (fun T X hS hk K hK => ?_) ?_
      ·skip
       have g8 := hk.old 8 (by kernel_rfl) rfl
       have hK := hK _ X hS (Reg.Is.of_val rfl) (fun _ _ _ h => h)
       clear hk
       go_simp
       exact hK
      refine Reg.EachV.guarded 18 92 false rfl (by kernel_rfl) (by kernel_rfl) rfl (fun T X hS hk K hK => ?_) ?_
      ·skip
       have g95 := hk.val 21 95 (by kernel_rfl) (by kernel_rfl) rfl
       have hK := hK _ X hS (Reg.Is.of_val rfl) (fun _ _ _ h => h)
       clear hk
       go_simp
       exact hK
      refine Reg.EachV.guarded 18 92 false rfl (by kernel_rfl) (by kernel_rfl) rfl (fun T X hS hk K hK => ?_) ?_
      ·skip
       have g94 := hk.val 20 94 (by kernel_rfl) (by kernel_rfl) rfl
       have g96 := hk.val 22 96 (by kernel_rfl) (by kernel_rfl) rfl
       have hK := hK _ X hS (Reg.Is.of_val rfl) (fun _ _ _ h => h)
       clear hk
       go_simp
       exact hK
      refine Reg.EachV.plain rfl (fun T X hS hk K hK => ?_) ?_
      ·skip
       have g92 := hk.val 18 92 (by kernel_rfl) (by kernel_rfl) rfl
       have g97 := hk.val 23 97 (by kernel_rfl) (by kernel_rfl) rfl
       have hK := hK _ X hS (Reg.Is.of_val rfl) (fun _ _ _ h => h)
       clear hk
       go_simp
       exact hK
      exact Reg.EachV.nil
     case rsZ =>
      intro u w1 hS hI
      have e0 : u 0 = .pointer (some ⟨gH, 0, none⟩) := (hI 0 (by decide)).val rfl
      have e1 : u 1 = .bool false := (hI 1 (by decide)).val rfl
      have e2 : u 2 = .slice va L.length vc := (hI 2 (by decide)).val rfl
      have e3 : u 3 = .int .i64 (L.length : Nat) := (hI 3 (by decide)).val rfl
      have e4 : u 4 = .bool false := (hI 4 (by decide)).val rfl
      have e5 : u 5 = .bool false := (hI 5 (by decide)).val rfl
      have e6 : u 6 = .bool false := (hI 6 (by decide)).val rfl
      have e7 : u 7 = .pointer (some ⟨gH, 0, none⟩) := (hI 7 (by decide)).val rfl
      have e8 : u 8 = .bool false := (hI 8 (by decide)).val rfl
      have e9 : u 9 = .bool false := (hI 9 (by decide)).val rfl
      have e10 : u 10 = undef := (hI 10 (by decide)).val rfl
      have e11 : u 11 = undef := (hI 11 (by decide)).val rfl
      have e12 : u 12 = undef := (hI 12 (by decide)).val rfl
      have e13 : u 13 = undef := (hI 13 (by decide)).val rfl
      have e14 : u 14 = undef := (hI 14 (by decide)).val rfl
      have e15 : u 15 = undef := (hI 15 (by decide)).val rfl
      have e16 : u 16 = .bool false := (hI 16 (by decide)).val rfl
      have e17 : u 17 = .bool false := (hI 17 (by decide)).val rfl
      have e18 : u 18 = .bool false := (hI 18 (by decide)).val rfl
      have e19 : u 19 = .slice va2 L.length vc2 := (hI 19 (by decide)).val rfl
      have e20 : u 20 = .int .i64 (L.length : Nat) := (hI 20 (by decide)).val rfl
      have e21 : u 21 = .slice va L.length vc := (hI 21 (by decide)).val rfl
      have e22 : u 22 = .int .i64 (L.length : Nat) := (hI 22 (by decide)).val rfl
      have e23 : u 23 = .bool false := (hI 23 (by decide)).val rfl
      have e24 : u 24 = .bool false := (hI 24 (by decide)).val rfl
      clear hI
      simp only [Reg.putAll, Act.put, List.setIfInBounds_toArray, List.set_cons_succ, List.set_cons_zero, Nat.zero_add, Nat.reduceAdd, e0, e1, e2, e3, e4, e5, e6, e7, e8, e9, e10, e11, e12, e13, e14, e15, e16, e17, e18, e19, e20, e21, e22, e23, e24]
      clear e0 e1 e2 e3 e4 e5 e6 e7 e8 e9 e10 e11 e12 e13 e14 e15 e16 e17 e18 e19 e20 e21 e22 e23 e24
      have HBW : Hid (Below W8.heap.size W8 w1) := Lib.hid ((Below.refl _ _).drew.trans hS)
      clear hS u HH8
      go_wp2_with fail
      go_loopg [101] L.length (fun gh s101 X => ∃ i : Nat, gh = L.length - i ∧ i ≤ L.length ∧ s101 = .int .i64 (i : Nat) ∧ Aside (Below W8.heap.size W8 X))
      case atStart => exact ⟨0, rfl, Nat.zero_le _, rfl, HBW.out⟩
      case round =>
       obtain ⟨i2, hgh, hi2, rfl, hbx⟩ := hrel
       have HGH := Lib.hid hgh
       have HBX := Lib.hid hbx.out
       clear hgh hbx
       by_cases hil : i2 < L.length
       ·have hil' : (i2 : Int) < (L.length : Int) := by omega
        obtain ⟨⟨m1, m2⟩, hm⟩ : ∃ m, L[i2]? = some m := ⟨_, List.getElem?_eq_getElem hil⟩
        obtain ⟨tb, tc, hv, c1, c2, cz⟩ := sp_cells (own_drop HR1.out HBX.out) hm
        obtain ⟨tb2, tc2, hv2, d1, d2, dz⟩ := sp_cells (own_drop HR2.out HBX.out) hm
        have HVX := Lib.hid (Value.slice.inj hv).1
        have HVY := Lib.hid (Value.slice.inj hv2).1
        have HIL := Lib.hid hil'
        have HCX := Lib.hid (And.intro c1 (And.intro c2 cz))
        have HCY := Lib.hid (And.intro d1 (And.intro d2 dz))
        clear hv hv2 hm c1 c2 cz d1 d2 dz
        go_upto_region 20 with fail
        refine Reg.wp_region_vals (fun X => Below wr.drew.heap.size wr.drew X) (fun j => ([some (.slice va2 L.length vc2), some (.int .i64 (i2 : Nat)), some (.pointer (some ⟨tb2, i2 * 2, none⟩)), some (.agg #[.int .i64 (m1 : Nat), .int .i64 (m2 : Nat)]), some (.slice va L.length vc), some (.int .i64 (i2 : Nat)), some (.pointer (some ⟨tb, i2 * 2, none⟩)), some (.agg #[.int .i64 (m1 : Nat), .int .i64 (m2 : Nat)]), some (.bool false)] : List (Option Value)).getD j none) (fun _ _ _ => True) (by kernel_rfl) (by kernel_rfl) (by kernel_rfl) (by kernel_rfl) ?rs0 ?rsE ?rsZ
        case rs0 => exact Below.refl _ _
        case rsE =>
         refine Reg.EachV.plain rfl (fun T X hS hk K hK => ?_) ?_
         ·skip
          have g11 := hk.old 11 (by kernel_rfl) rfl
          have hK := hK _ X hS (Reg.Is.of_val rfl) (fun _ _ _ h => h)
          clear hk
          go_simp
          exact hK
         refine Reg.EachV.plain rfl (fun T X hS hk K hK => ?_) ?_
         ·skip
          have g12 := hk.old 12 (by kernel_rfl) rfl
          have hK := hK _ X hS (Reg.Is.of_val rfl) (fun _ _ _ h => h)
          clear hk
          go_simp
          exact hK
         refine Reg.EachV.plain rfl (fun T X hS hk K hK => ?_) ?_
         ·skip
          have g104 := hk.val 0 104 (by kernel_rfl) (by kernel_rfl) rfl
          have g105 := hk.val 1 105 (by kernel_rfl) (by kernel_rfl) rfl
          rw [HVY.out] at g104
          have hil2 := HIL.out
          have h02 : (0 : Int) ≤ (i2 : Int) := by omega
          have hK := hK _ X hS (Reg.Is.of_val rfl) (fun _ _ _ h => h)
          clear hk
          go_simp
          exact hK
         refine Reg.EachV.plain rfl (fun T X hS hk K hK => ?_) ?_
         ·skip
          have g106 := hk.val 2 106 (by kernel_rfl) (by kernel_rfl) rfl
          have hb : Below wr.heap.size wr X := (Below.refl _ _).drew.trans hS
          have r1 := (hb.cell (show (⟨tb2, i2 * 2, none⟩ : Addr).block < wr.heap.size from HCY.out.2.2)).trans HCY.out.1
          have r2 := (hb.cell (show (⟨tb2, i2 * 2 + 1, none⟩ : Addr).block < wr.heap.size from HCY.out.2.2)).trans HCY.out.2.1
          have rz := Nat.lt_of_lt_of_le HCY.out.2.2 hb.size
          clear hb
          have hK := hK _ X hS (Reg.Is.of_val rfl) (fun _ _ _ h => h)
          clear hk
          go_simp
          exact hK
         refine Reg.EachV.plain rfl (fun T X hS hk K hK => ?_) ?_
         ·skip
          have g8 := hk.old 8 (by kernel_rfl) rfl
          have hK := hK _ X hS (Reg.Is.of_val rfl) (fun _ _ _ h => h)
          clear hk
          go_simp
          exact hK
         refine Reg.EachV.plain rfl (fun T X hS hk K hK => ?_) ?_
         ·skip
          have g12 := hk.old 12 (by kernel_rfl) rfl
          have hK := hK _ X hS (Reg.Is.of_val rfl) (fun _ _ _ h => h)
          clear hk
          go_simp
          exact hK
         refine Reg.EachV.plain rfl (fun T X hS hk K hK => ?_) ?_
         ·skip
          have g108 := hk.val 4 108 (by kernel_rfl) (by kernel_rfl) rfl
          have g109 := hk.val 5 109 (by kernel_rfl) (by kernel_rfl) rfl
          rw [HVX.out] at g108
          have hil2 := HIL.out
          have h02 : (0 : Int) ≤ (i2 : Int) := by omega
          have hK := hK _ X hS (Reg.Is.of_val rfl) (fun _ _ _ h => h)
          clear hk
          go_simp
          exact hK
         refine Reg.EachV.plain rfl (fun T X hS hk K hK => ?_) ?_
         ·skip
          have g110 := hk.val 6 110 (by kernel_rfl) (by kernel_rfl) rfl
          have hb : Below wr.heap.size wr X := (Below.refl _ _).drew.trans hS
          have r1 := (hb.cell (show (⟨tb, i2 * 2, none⟩ : Addr).block < wr.heap.size from HCX.out.2.2)).trans HCX.out.1
          have r2 := (hb.cell (show (⟨tb, i2 * 2 + 1, none⟩ : Addr).block < wr.heap.size from HCX.out.2.2)).trans HCX.out.2.1
          have rz := Nat.lt_of_lt_of_le HCX.out.2.2 hb.size
          clear hb
          have hK := hK _ X hS (Reg.Is.of_val rfl) (fun _ _ _ h => h)
          clear hk
          go_simp
          exact hK
         refine Reg.EachV.plain rfl (fun T X hS hk K hK => ?_) ?_
         ·skip
          have g107 := hk.val 3 107 (by kernel_rfl) (by kernel_rfl) rfl
          have g111 := hk.val 7 111 (by kernel_rfl) (by kernel_rfl) rfl
          have hK := hK _ X hS (Reg.Is.of_val rfl) (fun _ _ _ h => h)
          clear hk
          go_simp
          exact hK
         exact Reg.EachV.nil
        case rsZ =>
         intro u w1 hS hI
         have e0 : u 0 = .slice va2 L.length vc2 := (hI 0 (by decide)).val rfl
         have e1 : u 1 = .int .i64 (i2 : Nat) := (hI 1 (by decide)).val rfl
         have e2 : u 2 = .pointer (some ⟨tb2, i2 * 2, none⟩) := (hI 2 (by decide)).val rfl
         have e3 : u 3 = .agg #[.int .i64 (m1 : Nat), .int .i64 (m2 : Nat)] := (hI 3 (by decide)).val rfl
         have e4 : u 4 = .slice va L.length vc := (hI 4 (by decide)).val rfl
         have e5 : u 5 = .int .i64 (i2 : Nat) := (hI 5 (by decide)).val rfl
         have e6 : u 6 = .pointer (some ⟨tb, i2 * 2, none⟩) := (hI 6 (by decide)).val rfl
         have e7 : u 7 = .agg #[.int .i64 (m1 : Nat), .int .i64 (m2 : Nat)] := (hI 7 (by decide)).val rfl
         have e8 : u 8 = .bool false := (hI 8 (by decide)).val rfl
         clear hI
         simp only [Reg.putAll, Act.put, List.setIfInBounds_toArray, List.set_cons_succ, List.set_cons_zero, Nat.zero_add, Nat.reduceAdd, e0, e1, e2, e3, e4, e5, e6, e7, e8]
         clear e0 e1 e2 e3 e4 e5 e6 e7 e8
         have HBN : Hid (Below W8.heap.size W8 w1) := Lib.hid (HBX.out.trans (((Below.refl _ _).drew.trans hS).mono HBX.out.size))
         have hy1 : (i2 : Int) + 1 ≤ 9223372036854775807 := by omega
         have hy0 : -9223372036854775808 ≤ (i2 : Int) + 1 := by omega
         clear hS u
         go_wp2_with fail
         go_roundg (L.length - (i2 + 1))
         case measure => have := HGH.out; omega
         case rel => exact ⟨i2 + 1, rfl, by omega, by simp, HBN.out⟩
       ·obtain rfl : i2 = L.length := by omega
        have hnl : ¬ (L.length : Int) < (L.length : Int) := by omega
        have HBE : Hid (Below wc.heap.size wc wr) := Lib.hid (HBC8.out.trans (HBX.out.mono HBC8.out.size))
        go_wp2_with fail
        refine (HAW.out wr HBE.out).mono ?_
        rintro x w9 ⟨rfl, hb9⟩
        have HB10 := Lib.hid (HBE.out.trans (hb9.mono HBE.out.size))
        clear hb9
        go_wp2
        go_ret
        exact ⟨rfl, HB10.out⟩
    ·obtain rfl : kx = true := by rw [HKX.out, hx1]; rfl
     have HL0 : Hid (0 < L.length) := Lib.hid (by rw [hL1]; simp)
     have HLD : Hid (decide (0 < L.length) = true) := Lib.hid (decide_eq_true HL0.out)
     have hp : p = (s0, ex0) := by
      have := HVAL.out vx
      rw [hx1] at this
      obtain ⟨p1, p2⟩ := p
      rw [hitV_some] at this
      simp only [Value.agg.injEq] at this
      simp at this
      exact Prod.ext (by show p1 = s0; omega) (by show p2 = ex0; omega)
     obtain ⟨vb, vc', hv, c1, c2, cz⟩ := sp_cells (k := 0) HR1.out (by rw [hL1, hp]; rfl)
     have HVA := Lib.hid (Value.slice.inj hv).1
     rw [Nat.zero_mul] at c1 c2
     have HVB : Hid (∀ X, Below W8.heap.size W8 X → X.cell? ⟨vb, 0, none⟩ = some (.int .i64 (s0 : Nat)) ∧ X.cell? ⟨vb, 0 + 1, none⟩ = some (.int .i64 (ex0 : Nat)) ∧ vb < X.heap.size) := Lib.hid (fun X hX => ⟨(hX.cell (show (⟨vb, 0, none⟩ : Addr).block < W8.heap.size from cz)).trans c1, (hX.cell (show (⟨vb, 0 + 1, none⟩ : Addr).block < W8.heap.size from cz)).trans c2, Nat.lt_of_lt_of_le cz hX.size⟩)
     clear hx1 hL1 HKX HLX HVAL hv c1 c2 cz hp
     go_upto_region 15 with fail
     refine Reg.wp_region_vals (fun X => Below W8.drew.heap.size W8.drew X) (fun j => ([some (.pointer (some ⟨gH, 0, none⟩)), some (.bool true), some (.slice va L.length vc), some (.int .i64 (L.length : Nat)), some (.bool true), some (.bool false), some (.bool false), some (.pointer (some ⟨gH, 0, none⟩)), some (.bool true), some (.bool true), some (.pointer (some ⟨gH, 1, none⟩)), some (.agg #[.int .i64 (s0 : Nat), .int .i64 (ex0 : Nat)]), some (.slice va L.length vc), some (.pointer (some ⟨vb, 0, none⟩)), some (.agg #[.int .i64 (s0 : Nat), .int .i64 (ex0 : Nat)]), some (.bool false), some (.bool false), some (.bool false), some (.bool false), some (.slice va2 L.length vc2), some (.int .i64 (L.length : Nat)), some (.slice va L.length vc), some (.int .i64 (L.length : Nat)), some (.bool false), some (.bool false)] : List (Option Value)).getD j none) (fun _ _ _ => True) (by kernel_rfl) (by kernel_rfl) (by kernel_rfl) (by kernel_rfl) ?rs0 ?rsE ?rsZ
     case rs0 => exact Below.refl _ _
     case rsE =>
      refine Reg.EachV.plain rfl (fun T X hS hk K hK => ?_) ?_
      ·skip
       have g10 := hk.old 10 (by kernel_rfl) rfl
       have hK := hK _ X hS (Reg.Is.of_val rfl) (fun _ _ _ h => h)
       clear hk
       go_simp
       exact hK
      refine Reg.EachV.plain rfl (fun T X hS hk K hK => ?_) ?_
      ·skip
       have g74 := hk.val 0 74 (by kernel_rfl) (by kernel_rfl) rfl
       have hh := blk_below HH8.out ((Below.refl _ _).drew.trans hS)
       have r0 : X.cell? ⟨gH, 0, none⟩ = some (.bool true) := (Lib.cell_of_heap hh 0).trans rfl
       have r1 : X.cell? ⟨gH, 1, none⟩ = some (.int .i64 (s0 : Nat)) := (Lib.cell_of_heap hh 1).trans rfl
       have r2 : X.cell? ⟨gH, 2, none⟩ = some (.int .i64 (ex0 : Nat)) := (Lib.cell_of_heap hh 2).trans rfl
       have rz := lt_blkB hh
       clear hh
       have hK := hK _ X hS (Reg.Is.of_val rfl) (fun _ _ _ h => h)
       clear hk
       go_simp
       exact hK
      refine Reg.EachV.plain rfl (fun T X hS hk K hK => ?_) ?_
      ·skip
       have g8 := hk.old 8 (by kernel_rfl) rfl
       have hK := hK _ X hS (Reg.Is.of_val rfl) (fun _ _ _ h => h)
       clear hk
       go_simp
       exact hK
      refine Reg.EachV.plain rfl (fun T X hS hk K hK => ?_) ?_
      ·skip
       have g76 := hk.val 2 76 (by kernel_rfl) (by kernel_rfl) rfl
       have hK := hK _ X hS (Reg.Is.of_val rfl) (fun _ _ _ h => h)
       clear hk
       go_simp
       exact hK
      refine Reg.EachV.plain rfl (fun T X hS hk K hK => ?_) ?_
      ·skip
       have g77 := hk.val 3 77 (by kernel_rfl) (by kernel_rfl) rfl
       have hK := hK _ X hS (Reg.Is.of_val rfl) (fun _ _ _ h => h)
       clear hk
       go_simp
       rw [HLD.out]
       exact hK
      refine Reg.EachV.plain rfl (fun T X hS hk K hK => ?_) ?_
      ·skip
       have g75 := hk.val 1 75 (by kernel_rfl) (by kernel_rfl) rfl
       have g78 := hk.val 4 78 (by kernel_rfl) (by kernel_rfl) rfl
       have hK := hK _ X hS (Reg.Is.of_val rfl) (fun _ _ _ h => h)
       clear hk
       go_simp
       exact hK
      refine Reg.EachV.plain rfl (fun T X hS hk K hK => ?_) ?_
      ·skip
       have g79 := hk.val 5 79 (by kernel_rfl) (by kernel_rfl) rfl
       have hK := hK _ X hS (Reg.Is.of_val rfl) (fun _ _ _ h => h)
       clear hk
       go_simp
       exact hK
      refine Reg.EachV.guarded 6 80 false rfl (by kernel_rfl) (by kernel_rfl) rfl (fun T X hS hk K hK => ?_) ?_
      ·skip
       have g10 := hk.old 10 (by kernel_rfl) rfl
       have hK := hK _ X hS (Reg.Is.of_val rfl) (fun _ _ _ h => h)
       clear hk
       go_simp
       exact hK
      refine Reg.EachV.guarded 6 80 false rfl (by kernel_rfl) (by kernel_rfl) rfl (fun T X hS hk K hK => ?_) ?_
      ·skip
       have g81 := hk.val 7 81 (by kernel_rfl) (by kernel_rfl) rfl
       have hh := blk_below HH8.out ((Below.refl _ _).drew.trans hS)
       have r0 : X.cell? ⟨gH, 0, none⟩ = some (.bool true) := (Lib.cell_of_heap hh 0).trans rfl
       have r1 : X.cell? ⟨gH, 1, none⟩ = some (.int .i64 (s0 : Nat)) := (Lib.cell_of_heap hh 1).trans rfl
       have r2 : X.cell? ⟨gH, 2, none⟩ = some (.int .i64 (ex0 : Nat)) := (Lib.cell_of_heap hh 2).trans rfl
       have rz := lt_blkB hh
       clear hh
       have hK := hK _ X hS (Reg.Is.of_val rfl) (fun _ _ _ h => h)
       clear hk
       go_simp
       exact hK
      refine Reg.EachV.guarded 6 80 false rfl (by kernel_rfl) (by kernel_rfl) rfl (fun T X hS hk K hK => ?_) ?_
      ·skip
       have g82 := hk.val 8 82 (by kernel_rfl) (by kernel_rfl) rfl
       have hK := hK _ X hS (Reg.Is.of_val rfl) (fun _ _ _ h => h)
       clear hk
       go_simp
       exact hK
      refine Reg.EachV.guarded 9 83 true rfl (by kernel_rfl) (by kernel_rfl) rfl (fun T X hS hk K hK => ?_) ?_
      ·skip
       have g10 := hk.old 10 (by kernel_rfl) rfl
       have hh := blk_below HH8.out ((Below.refl _ _).drew.trans hS)
       have r0 : X.cell? ⟨gH, 0, none⟩ = some (.bool true) := (Lib.cell_of_heap hh 0).trans rfl
       have r1 : X.cell? ⟨gH, 1, none⟩ = some (.int .i64 (s0 : Nat)) := (Lib.cell_of_heap hh 1).trans rfl
       have r2 : X.cell? ⟨gH, 2, none⟩ = some (.int .i64 (ex0 : Nat)) := (Lib.cell_of_heap hh 2).trans rfl
       have rz := lt_blkB hh
       clear hh
       have hK := hK _ X hS (Reg.Is.of_val rfl) (fun _ _ _ h => h)
       clear hk
       go_simp
       exact hK
      refine Reg.EachV.guarded 9 83 true rfl (by kernel_rfl) (by kernel_rfl) rfl (fun T X hS hk K hK => ?_) ?_
      ·skip
       have g84 := hk.val 10 84 (by kernel_rfl) (by kernel_rfl) rfl
       have hh := blk_below HH8.out ((Below.refl _ _).drew.trans hS)
       have r0 : X.cell? ⟨gH, 0, none⟩ = some (.bool true) := (Lib.cell_of_heap hh 0).trans rfl
       have r1 : X.cell? ⟨gH, 1, none⟩ = some (.int .i64 (s0 : Nat)) := (Lib.cell_of_heap hh 1).trans rfl
       have r2 : X.cell? ⟨gH, 2, none⟩ = some (.int .i64 (ex0 : Nat)) := (Lib.cell_of_heap hh 2).trans rfl
       have rz := lt_blkB hh
       clear hh
       have hK := hK _ X hS (Reg.Is.of_val rfl) (fun _ _ _ h => h)
       clear hk
       go_simp
       exact hK
      refine Reg.EachV.guarded 9 83 true rfl (by kernel_rfl) (by kernel_rfl) rfl (fun T X hS hk K hK => ?_) ?_
      ·skip
       have g8 := hk.old 8 (by kernel_rfl) rfl
       have hK := hK _ X hS (Reg.Is.of_val rfl) (fun _ _ _ h => h)
       clear hk
       go_simp
       exact hK
      refine Reg.EachV.guarded 9 83 true rfl (by kernel_rfl) (by kernel_rfl) rfl (fun T X hS hk K hK => ?_) ?_
      ·skip
       have g86 := hk.val 12 86 (by kernel_rfl) (by kernel_rfl) rfl
       rw [HVA.out] at g86
       have d0 : 0 < L.length := HL0.out
       have hK := hK _ X hS (Reg.Is.of_val rfl) (fun _ _ _ h => h)
       clear hk
       go_simp
       exact hK
      refine Reg.EachV.guarded 9 83 true rfl (by kernel_rfl) (by kernel_rfl) rfl (fun T X hS hk K hK => ?_) ?_
      ·skip
       have g87 := hk.val 13 87 (by kernel_rfl) (by kernel_rfl) rfl
       obtain ⟨r1, r2, rz⟩ := HVB.out X ((Below.refl _ _).drew.trans hS)
       have hK := hK _ X hS (Reg.Is.of_val rfl) (fun _ _ _ h => h)
       clear hk
       go_simp
       exact hK
      refine Reg.EachV.guarded 9 83 true rfl (by kernel_rfl) (by kernel_rfl) rfl (fun T X hS hk K hK => ?_) ?_
      ·skip
       have g85 := hk.val 11 85 (by kernel_rfl) (by kernel_rfl) rfl
       have g88 := hk.val 14 88 (by kernel_rfl) (by kernel_rfl) rfl
       have hK := hK _ X hS (Reg.Is.of_val rfl) (fun _ _ _ h => h)
       clear hk
       go_simp
       exact hK
      refine Reg.EachV.guarded 6 80 false rfl (by kernel_rfl) (by kernel_rfl) rfl (fun T X hS hk K hK => ?_) ?_
      ·skip
       have g83 := hk.val 9 83 (by kernel_rfl) (by kernel_rfl) rfl
       have g89 := hk.val 15 89 (by kernel_rfl) (by kernel_rfl) rfl
       have hK := hK _ X hS (Reg.Is.of_val rfl) (fun _ _ _ h => h)
       clear hk
       go_simp
       exact hK
      refine Reg.EachV.plain rfl (fun T X hS hk K hK => ?_) ?_
      ·skip
       have g80 := hk.val 6 80 (by kernel_rfl) (by kernel_rfl) rfl
       have g90 := hk.val 16 90 (by kernel_rfl) (by kernel_rfl) rfl
       have hK := hK _ X hS (Reg.Is.of_val rfl) (fun _ _ _ h => h)
       clear hk
       go_simp
       exact hK
      refine Reg.EachV.plain rfl (fun T X hS hk K hK => ?_) ?_
      ·skip
       have g91 := hk.val 17 91 (by kernel_rfl) (by kernel_rfl) rfl
       have hK := hK _ X hS (Reg.Is.of_val rfl) (fun _ _ _ h => h)
       clear hk
       go_simp
       exact hK
      refine Reg.EachV.guarded 18 92 false rfl (by kernel_rfl) (by kernel_rfl) rfl (fun T X hS hk K hK => ?_) ?_
      ·skip
       have g11 := hk.old 11 (by kernel_rfl) rfl
       have hK := hK _ X hS (Reg.Is.of_val rfl) (fun _ _ _ h => h)
       clear hk
       go_simp
       exact hK
      refine Reg.EachV.guarded 18 92 false rfl (by kernel_rfl) (by kernel_rfl) rfl (fun T X hS hk K hK => ?_) ?_
      ·skip
       have g93 := hk.val 19 93 (by kernel_rfl) (by kernel_rfl) rfl
       have hK := hK _ X hS (Reg.Is.of_val rfl) (fun _ _ _ h => h)
       clear hk
       go_simp
       exact hK
      refine Reg.EachV.guarded 18 92 false rfl (by kernel_rfl) (by kernel_rfl) rfl (fun T X hS hk K hK => ?_) ?_
      ·skip
       have g8 := hk.old 8 (by kernel_rfl) rfl
       have hK := hK _ X hS (Reg.Is.of_val rfl) (fun _ _ _ h => h)
       clear hk
       go_simp
       exact hK
      refine Reg.EachV.guarded 18 92 false rfl (by kernel_rfl) (by kernel_rfl) rfl (fun T X hS hk K hK => ?_) ?_
      ·skip
       have g95 := hk.val 21 95 (by kernel_rfl) (by kernel_rfl) rfl
       have hK := hK _ X hS (Reg.Is.of_val rfl) (fun _ _ _ h => h)
       clear hk
       go_simp
       exact hK
      refine Reg.EachV.guarded 18 92 false rfl (by kernel_rfl) (by kernel_rfl) rfl (fun T X hS hk K hK => ?_) ?_
      ·skip
       have g94 := hk.val 20 94 (by kernel_rfl) (by kernel_rfl) rfl
       have g96 := hk.val 22 96 (by kernel_rfl) (by kernel_rfl) rfl
       have hK := hK _ X hS (Reg.Is.of_val rfl) (fun _ _ _ h => h)
       clear hk
       go_simp
       exact hK
      refine Reg.EachV.plain rfl (fun T X hS hk K hK => ?_) ?_
      ·skip
       have g92 := hk.val 18 92 (by kernel_rfl) (by kernel_rfl) rfl
       have g97 := hk.val 23 97 (by kernel_rfl) (by kernel_rfl) rfl
       have hK := hK _ X hS (Reg.Is.of_val rfl) (fun _ _ _ h => h)
       clear hk
       go_simp
       exact hK
      exact Reg.EachV.nil
     case rsZ =>
      intro u w1 hS hI
      have e0 : u 0 = .pointer (some ⟨gH, 0, none⟩) := (hI 0 (by decide)).val rfl
      have e1 : u 1 = .bool true := (hI 1 (by decide)).val rfl
      have e2 : u 2 = .slice va L.length vc := (hI 2 (by decide)).val rfl
      have e3 : u 3 = .int .i64 (L.length : Nat) := (hI 3 (by decide)).val rfl
      have e4 : u 4 = .bool true := (hI 4 (by decide)).val rfl
      have e5 : u 5 = .bool false := (hI 5 (by decide)).val rfl
      have e6 : u 6 = .bool false := (hI 6 (by decide)).val rfl
      have e7 : u 7 = .pointer (some ⟨gH, 0, none⟩) := (hI 7 (by decide)).val rfl
      have e8 : u 8 = .bool true := (hI 8 (by decide)).val rfl
      have e9 : u 9 = .bool true := (hI 9 (by decide)).val rfl
      have e10 : u 10 = .pointer (some ⟨gH, 1, none⟩) := (hI 10 (by decide)).val rfl
      have e11 : u 11 = .agg #[.int .i64 (s0 : Nat), .int .i64 (ex0 : Nat)] := (hI 11 (by decide)).val rfl
      have e12 : u 12 = .slice va L.length vc := (hI 12 (by decide)).val rfl
      have e13 : u 13 = .pointer (some ⟨vb, 0, none⟩) := (hI 13 (by decide)).val rfl
      have e14 : u 14 = .agg #[.int .i64 (s0 : Nat), .int .i64 (ex0 : Nat)] := (hI 14 (by decide)).val rfl
      have e15 : u 15 = .bool false := (hI 15 (by decide)).val rfl
      have e16 : u 16 = .bool false := (hI 16 (by decide)).val rfl
      have e17 : u 17 = .bool false := (hI 17 (by decide)).val rfl
      have e18 : u 18 = .bool false := (hI 18 (by decide)).val rfl
      have e19 : u 19 = .slice va2 L.length vc2 := (hI 19 (by decide)).val rfl
      have e20 : u 20 = .int .i64 (L.length : Nat) := (hI 20 (by decide)).val rfl
      have e21 : u 21 = .slice va L.length vc := (hI 21 (by decide)).val rfl
      have e22 : u 22 = .int .i64 (L.length : Nat) := (hI 22 (by decide)).val rfl
      have e23 : u 23 = .bool false := (hI 23 (by decide)).val rfl
      have e24 : u 24 = .bool false := (hI 24 (by decide)).val rfl
      clear hI
      simp only [Reg.putAll, Act.put, List.setIfInBounds_toArray, List.set_cons_succ, List.set_cons_zero, Nat.zero_add, Nat.reduceAdd, e0, e1, e2, e3, e4, e5, e6, e7, e8, e9, e10, e11, e12, e13, e14, e15, e16, e17, e18, e19, e20, e21, e22, e23, e24]
      clear e0 e1 e2 e3 e4 e5 e6 e7 e8 e9 e10 e11 e12 e13 e14 e15 e16 e17 e18 e19 e20 e21 e22 e23 e24
      have HBW : Hid (Below W8.heap.size W8 w1) := Lib.hid ((Below.refl _ _).drew.trans hS)
      clear hS u HH8
      go_wp2_with fail
      go_loopg [101] L.length (fun gh s101 X => ∃ i : Nat, gh = L.length - i ∧ i ≤ L.length ∧ s101 = .int .i64 (i : Nat) ∧ Aside (Below W8.heap.size W8 X))
      case atStart => exact ⟨0, rfl, Nat.zero_le _, rfl, HBW.out⟩
      case round =>
       obtain ⟨i2, hgh, hi2, rfl, hbx⟩ := hrel
       have HGH := Lib.hid hgh
       have HBX := Lib.hid hbx.out
       clear hgh hbx
       by_cases hil : i2 < L.length
       ·have hil' : (i2 : Int) < (L.length : Int) := by omega
        obtain ⟨⟨m1, m2⟩, hm⟩ : ∃ m, L[i2]? = some m := ⟨_, List.getElem?_eq_getElem hil⟩
        obtain ⟨tb, tc, hv, c1, c2, cz⟩ := sp_cells (own_drop HR1.out HBX.out) hm
        obtain ⟨tb2, tc2, hv2, d1, d2, dz⟩ := sp_cells (own_drop HR2.out HBX.out) hm
        have HVX := Lib.hid (Value.slice.inj hv).1
        have HVY := Lib.hid (Value.slice.inj hv2).1
        have HIL := Lib.hid hil'
        have HCX := Lib.hid (And.intro c1 (And.intro c2 cz))
        have HCY := Lib.hid (And.intro d1 (And.intro d2 dz))
        clear hv hv2 hm c1 c2 cz d1 d2 dz
        go_upto_region 20 with fail
        refine Reg.wp_region_vals (fun X => Below wr.drew.heap.size wr.drew X) (fun j => ([some (.slice va2 L.length vc2), some (.int .i64 (i2 : Nat)), some (.pointer (some ⟨tb2, i2 * 2, none⟩)), some (.agg #[.int .i64 (m1 : Nat), .int .i64 (m2 : Nat)]), some (.slice va L.length vc), some (.int .i64 (i2 : Nat)), some (.pointer (some ⟨tb, i2 * 2, none⟩)), some (.agg #[.int .i64 (m1 : Nat), .int .i64 (m2 : Nat)]), some (.bool false)] : List (Option Value)).getD j none) (fun _ _ _ => True) (by kernel_rfl) (by kernel_rfl) (by kernel_rfl) (by kernel_rfl) ?rs0 ?rsE ?rsZ
        case rs0 => exact Below.refl _ _
        case rsE =>
         refine Reg.EachV.plain rfl (fun T X hS hk K hK => ?_) ?_
         ·skip
          have g11 := hk.old 11 (by kernel_rfl) rfl
          have hK := hK _ X hS (Reg.Is.of_val rfl) (fun _ _ _ h => h)
          clear hk
          go_simp
          exact hK
         refine Reg.EachV.plain rfl (fun T X hS hk K hK => ?_) ?_
         ·skip
          have g12 := hk.old 12 (by kernel_rfl) rfl
          have hK := hK _ X hS (Reg.Is.of_val rfl) (fun _ _ _ h => h)
          clear hk
          go_simp
          exact hK
         refine Reg.EachV.plain rfl (fun T X hS hk K hK => ?_) ?_
         ·skip
          have g104 := hk.val 0 104 (by kernel_rfl) (by kernel_rfl) rfl
          have g105 := hk.val 1 105 (by kernel_rfl) (by kernel_rfl) rfl
          rw [HVY.out] at g104
          have hil2 := HIL.out
          have h02 : (0 : Int) ≤ (i2 : Int) := by omega
          have hK := hK _ X hS (Reg.Is.of_val rfl) (fun _ _ _ h => h)
          clear hk
          go_simp
          exact hK
         refine Reg.EachV.plain rfl (fun T X hS hk K hK => ?_) ?_
         ·skip
          have g106 := hk.val 2 106 (by kernel_rfl) (by kernel_rfl) rfl
          have hb : Below wr.heap.size wr X := (Below.refl _ _).drew.trans hS
          have r1 := (hb.cell (show (⟨tb2, i2 * 2, none⟩ : Addr).block < wr.heap.size from HCY.out.2.2)).trans HCY.out.1
          have r2 := (hb.cell (show (⟨tb2, i2 * 2 + 1, none⟩ : Addr).block < wr.heap.size from HCY.out.2.2)).trans HCY.out.2.1
          have rz := Nat.lt_of_lt_of_le HCY.out.2.2 hb.size
          clear hb
          have hK := hK _ X hS (Reg.Is.of_val rfl) (fun _ _ _ h => h)
          clear hk
          go_simp
          exact hK
         refine Reg.EachV.plain rfl (fun T X hS hk K hK => ?_) ?_
         ·skip
          have g8 := hk.old 8 (by kernel_rfl) rfl
          have hK := hK _ X hS (Reg.Is.of_val rfl) (fun _ _ _ h => h)
          clear hk
          go_simp
          exact hK
         refine Reg.EachV.plain rfl (fun T X hS hk K hK => ?_) ?_
         ·skip
          have g12 := hk.old 12 (by kernel_rfl) rfl
          have hK := hK _ X hS (Reg.Is.of_val rfl) (fun _ _ _ h => h)
          clear hk
          go_simp
          exact hK
         refine Reg.EachV.plain rfl (fun T X hS hk K hK => ?_) ?_
         ·skip
          have g108 := hk.val 4 108 (by kernel_rfl) (by kernel_rfl) rfl
          have g109 := hk.val 5 109 (by kernel_rfl) (by kernel_rfl) rfl
          rw [HVX.out] at g108
          have hil2 := HIL.out
          have h02 : (0 : Int) ≤ (i2 : Int) := by omega
          have hK := hK _ X hS (Reg.Is.of_val rfl) (fun _ _ _ h => h)
          clear hk
          go_simp
          exact hK
         refine Reg.EachV.plain rfl (fun T X hS hk K hK => ?_) ?_
         ·skip
          have g110 := hk.val 6 110 (by kernel_rfl) (by kernel_rfl) rfl
          have hb : Below wr.heap.size wr X := (Below.refl _ _).drew.trans hS
          have r1 := (hb.cell (show (⟨tb, i2 * 2, none⟩ : Addr).block < wr.heap.size from HCX.out.2.2)).trans HCX.out.1
          have r2 := (hb.cell (show (⟨tb, i2 * 2 + 1, none⟩ : Addr).block < wr.heap.size from HCX.out.2.2)).trans HCX.out.2.1
          have rz := Nat.lt_of_lt_of_le HCX.out.2.2 hb.size
          clear hb
          have hK := hK _ X hS (Reg.Is.of_val rfl) (fun _ _ _ h => h)
          clear hk
          go_simp
          exact hK
         refine Reg.EachV.plain rfl (fun T X hS hk K hK => ?_) ?_
         ·skip
          have g107 := hk.val 3 107 (by kernel_rfl) (by kernel_rfl) rfl
          have g111 := hk.val 7 111 (by kernel_rfl) (by kernel_rfl) rfl
          have hK := hK _ X hS (Reg.Is.of_val rfl) (fun _ _ _ h => h)
          clear hk
          go_simp
          exact hK
         exact Reg.EachV.nil
        case rsZ =>
         intro u w1 hS hI
         have e0 : u 0 = .slice va2 L.length vc2 := (hI 0 (by decide)).val rfl
         have e1 : u 1 = .int .i64 (i2 : Nat) := (hI 1 (by decide)).val rfl
         have e2 : u 2 = .pointer (some ⟨tb2, i2 * 2, none⟩) := (hI 2 (by decide)).val rfl
         have e3 : u 3 = .agg #[.int .i64 (m1 : Nat), .int .i64 (m2 : Nat)] := (hI 3 (by decide)).val rfl
         have e4 : u 4 = .slice va L.length vc := (hI 4 (by decide)).val rfl
         have e5 : u 5 = .int .i64 (i2 : Nat) := (hI 5 (by decide)).val rfl
         have e6 : u 6 = .pointer (some ⟨tb, i2 * 2, none⟩) := (hI 6 (by decide)).val rfl
         have e7 : u 7 = .agg #[.int .i64 (m1 : Nat), .int .i64 (m2 : Nat)] := (hI 7 (by decide)).val rfl
         have e8 : u 8 = .bool false := (hI 8 (by decide)).val rfl
         clear hI
         simp only [Reg.putAll, Act.put, List.setIfInBounds_toArray, List.set_cons_succ, List.set_cons_zero, Nat.zero_add, Nat.reduceAdd, e0, e1, e2, e3, e4, e5, e6, e7, e8]
         clear e0 e1 e2 e3 e4 e5 e6 e7 e8
         have HBN : Hid (Below W8.heap.size W8 w1) := Lib.hid (HBX.out.trans (((Below.refl _ _).drew.trans hS).mono HBX.out.size))
         have hy1 : (i2 : Int) + 1 ≤ 9223372036854775807 := by omega
         have hy0 : -9223372036854775808 ≤ (i2 : Int) + 1 := by omega
         clear hS u
         go_wp2_with fail
         go_roundg (L.length - (i2 + 1))
         case measure => have := HGH.out; omega
         case rel => exact ⟨i2 + 1, rfl, by omega, by simp, HBN.out⟩
       ·obtain rfl : i2 = L.length := by omega
        have hnl : ¬ (L.length : Int) < (L.length : Int) := by omega
        have HBE : Hid (Below wc.heap.size wc wr) := Lib.hid (HBC8.out.trans (HBX.out.mono HBC8.out.size))
        go_wp2_with fail
        refine (HAW.out wr HBE.out).mono ?_
        rintro x w9 ⟨rfl, hb9⟩
        have HB10 := Lib.hid (HBE.out.trans (hb9.mono HBE.out.size))
        clear hb9
        go_wp2
        go_ret
        exact ⟨rfl, HB10.out⟩
end Go.Proofs.YtnpkcllbpnmabaaGreatDoor
