/- The contract of gmatch.Select (gen_gsel.py). -/
import Derived.Test.YtoodpajbefffhaaDoorSlcS
import Derived.Test.YtoodpajbefffhaaDoorSlcD
import Derived.Test.YtoodpajbefffhaaDoorScConv
import Derived.Test.YtoodpajbefffhaaDoorShelf
import Derived.Sort.OwnSorted
namespace Go.Proofs.YtoodpajbefffhaaDoor
open Go.RowKit

theorem strq_row : (Tryd.prog.info? 9).map (fun i => (i.zero, i.size, i.bytes)) = some (some (.string ⟨#[]⟩), 1, 16) := by kernel_rfl
/-- Which names a pattern selects. -/
def selB (ps : List Pc) (x : List UInt8) : Bool := (dotB ps || !Lib.hasPrefix x [46]) && mtc ps (bys ⟨x.toArray⟩)
theorem take_filter {L : List (List UInt8)} {k : Nat} {x : List UInt8} (f : List UInt8 → Bool) (h : L[k]? = some x) : (L.take (k + 1)).filter f = (L.take k).filter f ++ (if f x = true then [x] else []) := by
  have e : L.take (k + 1) = L.take k ++ [x] := by
    have hg := (List.getElem?_eq_some_iff.1 h).2
    rw [← hg]; simp
  rw [e, List.filter_append]
  congr 1
  by_cases hf : f x = true
  · rw [if_pos hf]; simp [hf]
  · rw [if_neg hf]; simp [hf]
structure SgI (w : World) (ps : List Pc) (vp : Value) (F : List (List UInt8)) (v : Value) (X : World) : Prop where
  bel : Below w.heap.size w X
  row : X.ownsRow w.heap.size 41 5 vp ps.length (cellsL ps)
  own : X.ownsRow w.heap.size 9 1 v F.length (F.map nmV)
theorem SgI.nxt {w : World} {ps : List Pc} {vp : Value} {F : List (List UInt8)} {v : Value} {X X' : World} (h : SgI w ps vp F v X) (hb : Below X.heap.size X X') : SgI w ps vp F v X' :=
  ⟨below_thn h.bel (Nat.le_refl _) hb, own_drop h.row hb, own_drop h.own hb⟩

set_option maxRecDepth 100000 in
set_option maxHeartbeats 16000000 in
theorem gsel_any (ps : List Pc) (L : List (List UInt8)) (nv : Value) (B b : Nat) (w : World) (hT : TZ w) (hp : PatAt B b ps w) (hl : ps.length ≤ 1048576) (hn : Ss w nv L) (hL : L.length ≤ 40) (h60 : ∀ x ∈ L, x.length ≤ 60) :
    Calls Tryd.prog 5 #[.pointer (some ⟨b, 0, none⟩), nv] w fun e w' => ∃ v, e = .returned v ∧ Ss w' v (putAll [] (L.filter (selB ps))) ∧ Below w.heap.size w w' := by
  obtain ⟨i1, ki, kz0, kz1, kz2⟩ := info_parts strq_row
  have HP := Lib.hid (pieces_own B b ps w hp hl)
  obtain ⟨na, nc, rfl⟩ := hn.shp
  have HNS := Lib.hid hn
  have HDT := Lib.hid (fun (v : Value) (X : World) (hr : X.ownsRow w.heap.size 41 5 v ps.length (cellsL ps)) => dot_any ps v w.heap.size X hr hl)
  have HIM := Lib.hid (fun (s : List Int) (sv v : Value) (X : World) (hX : Below w.heap.size w X) (hs : Sl X sv s) (hs6 : s.length ≤ 60) (hr : X.ownsRow w.heap.size 41 5 v ps.length (cellsL ps)) => isMatch_any s ps sv v w.heap.size X (hT.below hX) hs (by omega) hr hl)
  have H60 := Lib.hid h60
  obtain ⟨n, hn'⟩ : ∃ n, n = L.length := ⟨_, rfl⟩
  have HN := Lib.hid hn'
  rw [← hn'] at hL HNS ⊢
  clear hT hp hn h60 hn'
  go_enter Tryd.func5, Tryd.ntmps5
  go_wp2_with fail
  refine HP.out.mono ?_
  rintro e w1 ⟨vp, rfl, hr1, hb1⟩
  have HI1 : Hid (SgI w ps vp ((L.take 0).filter (selB ps)) (.slice none 0 0) w1) := Lib.hid ⟨hb1, hr1, World.ownsRow_nil _ _ _ _⟩
  have HD1 := Lib.hid (HDT.out vp w1 hr1)
  clear hr1 hb1
  go_wp2_with fail
  refine HD1.out.mono ?_
  rintro e w2 ⟨rfl, hb2⟩
  have HI2 := Lib.hid (HI1.out.nxt hb2)
  clear hb2
  obtain ⟨dt, hdt⟩ : ∃ dt, dt = dotB ps := ⟨_, rfl⟩
  have HDD := Lib.hid hdt
  rw [← hdt]
  clear hdt
  go_wp2_with fail
  go_loopw [7, 18] (fun v i X => ∃ k : Nat, i = .int .i64 (k : Nat) ∧ k ≤ n ∧ Hid (SgI w ps vp ((L.take k).filter (selB ps)) v X)) (fun _ i _ => n - (intOf i).toNat)
  case atStart => exact ⟨0, rfl, Nat.zero_le _, HI2⟩
  case round =>
    obtain ⟨k, rfl, hk, HI⟩ := hrel
    have hfl : ((L.take k).filter (selB ps)).length ≤ 40 := Nat.le_trans (List.length_filter_le _ _) (by rw [List.length_take, ← HN.out]; omega)
    obtain ⟨a0, cap0, hv0⟩ := own_shapeK HI.out.own
    subst hv0
    by_cases hlt : k < n
    · have hltL : k < L.length := by rw [← HN.out]; exact hlt
      obtain ⟨nb, no, x, rfl, hx, hcell⟩ := (HNS.out.below HI.out.bel).at hltL
      have hx60 : x.length ≤ 60 := H60.out x (List.mem_of_getElem? hx)
      have HTF := Lib.hid (take_filter (selB ps) hx)
      obtain ⟨m, hm⟩ : ∃ m, m = mtc ps (bys ⟨x.toArray⟩) := ⟨_, rfl⟩
      obtain ⟨hpf, hhp⟩ : ∃ hpf, hpf = Lib.hasPrefix x [46] := ⟨_, rfl⟩
      have HSB : Hid (selB ps x = ((dt || !hpf) && m)) := Lib.hid (by unfold selB; rw [HDD.out, hm, hhp])
      unfold nmV at hcell
      obtain ⟨s, hs⟩ : ∃ s, s = (⟨x.toArray⟩ : ByteArray) := ⟨_, rfl⟩
      rw [← hs] at hcell hm
      have HXN : Hid (nmV x = .string s) := Lib.hid (by rw [hs]; rfl)
      have hsz : s.size ≤ 60 := by rw [hs]; exact hx60
      have hsd : s.data.toList = x := by rw [hs]
      have HHP : Hid (∀ X, Calls Tryd.prog 15 #[.string s, .string ⟨#[46]⟩] X fun e w' => e = .returned (.bool hpf) ∧ w' = X) := Lib.hid fun X => by
        have := Tryd.strings_HasPrefix s ⟨#[46]⟩ X
        rw [hsd] at this
        rw [hhp]
        exact this
      have hkI : (k : Int) < (n : Int) := by omega
      have hcz := World.block_lt_of_cell? _ _ hcell
      obtain ⟨qc, W1, hcv, hsl, hbc⟩ := conv_sl wr s (by omega)
      have HMT := Lib.hid hm
      have HM1 := Lib.hid (HIM.out (bys s) _ vp W1 (below_thn HI.out.bel (Nat.le_refl _) hbc) hsl (by rw [bys_length]; exact hsz) (HI.out.nxt hbc).row)
      rw [← HMT.out] at HM1
      have HIW := Lib.hid (HI.out.nxt hbc)
      clear hx hs hsd hhp hm hsl hbc
      cases dt with
      | true =>
        go_wp2_with fail
        refine HM1.out.mono ?_
        rintro e w3 ⟨rfl, hb3⟩
        have HI3 := Lib.hid (HIW.out.nxt hb3)
        clear hb3
        cases m with
        | false =>
          have HF2 : Hid ((L.take (k + 1)).filter (selB ps) = (L.take k).filter (selB ps)) := Lib.hid (by rw [HTF.out, HSB.out]; simp)
          go_wp2_with fail
          go_roundw
          case rel => exact ⟨k + 1, by go_num, by omega, by rw [HF2.out]; exact HI3⟩
          case measure => simp [intOf]; omega
        | true =>
          have HF2 : Hid ((L.take (k + 1)).filter (selB ps) = (L.take k).filter (selB ps) ++ [x]) := Lib.hid (by rw [HTF.out, HSB.out, if_pos (by rfl)])
          go_wp2_with (at_builtin; refine wpList_append_own _ rfl _ _ 23 rfl w.heap.size 9 i1 (.string ⟨#[]⟩) 1 16 Tryd.underlying23 ki kz0 kz1 kz2 rfl (by decide) _ _ _ rfl (HI3.out.own.alloc _) ⟨w3.heap.size, 0, none⟩ 1 1 [.string s] rfl rfl ?c1b ?c2b ?c3b ?c4b ?c5b ?_)
          try case c1b =>
            intro j u hj
            match j, hj with
            | 0, hj => simp at hj; subst hj; simp [Addr.add]
          try case c2b => intro u hu; simp at hu; subst hu; rfl
          try case c3b => first | omega | (unfold maxLen; simp; omega)
          try case c4b => first | omega | (simp; omega)
          try case c5b => have := HI3.out.bel.size; simp; omega
          intro v' w4 hown' hgr _
          have HN4 : Hid (SgI w ps vp ((L.take (k + 1)).filter (selB ps)) v' w4) := Lib.hid ⟨(HI3.out.bel.alloc HI3.out.bel.size _).grown hgr (by have := HI3.out.bel.size; simp; omega) (fun j hj => (HI3.out.own.lt j hj).1), own_other (HI3.out.row.alloc _) (HI3.out.own.alloc _) (by decide) hgr, by rw [HF2.out, List.map_append, List.length_append, List.map_singleton, HXN.out]; exact hown'⟩
          clear hown' hgr
          go_wp2_with fail
          go_roundw
          case rel => exact ⟨k + 1, by go_num, by omega, HN4⟩
          case measure => simp [intOf]; omega
      | false =>
        go_wp2_with fail
        refine (HHP.out _).mono ?_
        rintro e w3 ⟨rfl, rfl⟩
        cases hpf with
        | true =>
          have HF2 : Hid ((L.take (k + 1)).filter (selB ps) = (L.take k).filter (selB ps)) := Lib.hid (by rw [HTF.out, HSB.out]; simp)
          clear hcv
          go_wp2_with fail
          go_roundw
          case rel => exact ⟨k + 1, by go_num, by omega, by rw [HF2.out]; exact HI⟩
          case measure => simp [intOf]; omega
        | false =>
          go_wp2_with fail
          refine HM1.out.mono ?_
          rintro e w3 ⟨rfl, hb3⟩
          have HI3 := Lib.hid (HIW.out.nxt hb3)
          clear hb3
          cases m with
          | false =>
            have HF2 : Hid ((L.take (k + 1)).filter (selB ps) = (L.take k).filter (selB ps)) := Lib.hid (by rw [HTF.out, HSB.out]; simp)
            go_wp2_with fail
            go_roundw
            case rel => exact ⟨k + 1, by go_num, by omega, by rw [HF2.out]; exact HI3⟩
            case measure => simp [intOf]; omega
          | true =>
            have HF2 : Hid ((L.take (k + 1)).filter (selB ps) = (L.take k).filter (selB ps) ++ [x]) := Lib.hid (by rw [HTF.out, HSB.out, if_pos (by rfl)])
            go_wp2_with (at_builtin; refine wpList_append_own _ rfl _ _ 23 rfl w.heap.size 9 i1 (.string ⟨#[]⟩) 1 16 Tryd.underlying23 ki kz0 kz1 kz2 rfl (by decide) _ _ _ rfl (HI3.out.own.alloc _) ⟨w3.heap.size, 0, none⟩ 1 1 [.string s] rfl rfl ?c1c ?c2c ?c3c ?c4c ?c5c ?_)
            try case c1c =>
              intro j u hj
              match j, hj with
              | 0, hj => simp at hj; subst hj; simp [Addr.add]
            try case c2c => intro u hu; simp at hu; subst hu; rfl
            try case c3c => first | omega | (unfold maxLen; simp; omega)
            try case c4c => first | omega | (simp; omega)
            try case c5c => have := HI3.out.bel.size; simp; omega
            intro v' w4 hown' hgr _
            have HN4 : Hid (SgI w ps vp ((L.take (k + 1)).filter (selB ps)) v' w4) := Lib.hid ⟨(HI3.out.bel.alloc HI3.out.bel.size _).grown hgr (by have := HI3.out.bel.size; simp; omega) (fun j hj => (HI3.out.own.lt j hj).1), own_other (HI3.out.row.alloc _) (HI3.out.own.alloc _) (by decide) hgr, by rw [HF2.out, List.map_append, List.length_append, List.map_singleton, HXN.out]; exact hown'⟩
            clear hown' hgr
            go_wp2_with fail
            go_roundw
            case rel => exact ⟨k + 1, by go_num, by omega, HN4⟩
            case measure => simp [intOf]; omega
    · have hkn : k = n := by omega
      have HFF : Hid ((L.take k).filter (selB ps) = L.filter (selB ps)) := Lib.hid (by rw [List.take_of_length_le (by rw [hkn, HN.out]; exact Nat.le_refl _)])
      have hkI : ¬ (k : Int) < (n : Int) := by omega
      have HIF := HI.out
      rw [HFF.out] at HIF hfl
      have HII := Lib.hid HIF
      rw [HFF.out]
      clear HI HFF HIF hkn
      generalize hF0 : L.filter (selB ps) = F at *
      have HGF := Lib.hid hF0
      clear hF0
      rcases HII.out.own.2 with ⟨hv, h0⟩ | ⟨g, cap, cur, hv, hgl, hgb, hnc, hcm, hcs, htk⟩
      · simp only [Value.slice.injEq] at hv
        obtain ⟨rfl, hF0, rfl⟩ := hv
        have hF : F = [] := List.length_eq_zero_iff.1 h0
        subst hF
        go_wp2_with fail
        refine (Tryd.sort_Strings_none none 0 _).mono ?_
        rintro e w5 ⟨rfl, rfl⟩
        go_wp2_with fail
        refine (Tryd.slices_Compact_string_empty none 0 _).mono ?_
        rintro e w6 ⟨rfl, rfl⟩
        go_wp2
        go_ret
        exact ⟨_, rfl, Or.inl ⟨by rw [HGF.out]; rfl, _, _, rfl⟩, HII.out.bel⟩
      · simp only [Value.slice.injEq] at hv
        obtain ⟨rfl, _, rfl⟩ := hv
        have htk' : cur.toList.take F.length = F.map encStr := by rw [Nat.mul_one] at htk; exact htk
        have hH := holds_of_block hgb htk'
        have HSO := Lib.hid (Tryd.sort_Strings g 0 cap0 F wr hH (lt_blkB hgb) (by omega))
        obtain ⟨M, hM⟩ : ∃ M, M = F.mergeSort fun x y => decide (x ≤ y) := ⟨_, rfl⟩
        have hMl : M.length = F.length := by rw [hM]; exact (List.mergeSort_perm F _).length_eq
        have HSE : Hid (Lib.compact M = putAll [] F) := Lib.hid (by rw [hM]; exact sel_eq F)
        have HGB := Lib.hid (show wr.heap[g]? = some (.cells cur 9 (0, 0)) ∧ F.length ≤ cap0 ∧ cap0 ≤ maxLen ∧ cur.size = cap0 * 1 ∧ w.heap.size ≤ g from ⟨hgb, hnc, hcm, hcs, hgl⟩)
        rw [← hM] at HSO
        clear hM htk hgb hH htk'
        obtain ⟨n0, hn0⟩ : ∃ n0, n0 = F.length := ⟨_, rfl⟩
        have HN0 := Lib.hid hn0
        rw [← hn0] at HSO hMl hfl ⊢
        clear hn0 hnc hcm hcs hgl
        go_wp2_with fail
        refine HSO.out.mono ?_
        rintro e w5 ⟨rfl, q5, os5, hw5⟩
        have HO5 : Hid (w5.ownsRow w.heap.size 9 1 (.slice (some ⟨g, 0, none⟩) n0 cap0) n0 (M.map nmV)) := Lib.hid (by
          rw [hw5, HN0.out]
          exact ownsRow_sorted (by rw [hMl, HN0.out]) HGB.out.2.2.2.2 HGB.out.1 HGB.out.2.1 HGB.out.2.2.1 HGB.out.2.2.2.1)
        have HB5 : Hid (Below w.heap.size w w5) := Lib.hid (by
          rw [hw5]
          exact HII.out.bel.grown (grownBy_sorted _) HII.out.bel.size (fun j hj => by cases hj; exact HGB.out.2.2.2.2))
        clear hw5
        obtain ⟨cur5, hgb5, hnc5, hcm5, hcs5, htk5⟩ : ∃ cur5, w5.heap[g]? = some (.cells cur5 9 (0, 0)) ∧ n0 ≤ cap0 ∧ cap0 ≤ maxLen ∧ cur5.size = cap0 * 1 ∧ cur5.toList.take (n0 * 1) = M.map nmV := by
          rcases HO5.out.2 with ⟨hv, _⟩ | ⟨g', cap', cur', hv, _, h1, h2, h3, h4, h5⟩
          · simp at hv
          · simp only [Value.slice.injEq, Option.some.injEq, Addr.mk.injEq] at hv
            obtain ⟨⟨rfl, _, _⟩, _, rfl⟩ := hv
            exact ⟨cur', h1, h2, h3, h4, h5⟩
        have hH5 := holds_of_block hgb5 (ss := M) (by rw [hMl]; rw [Nat.mul_one] at htk5; exact htk5)
        have HCO := Tryd.slices_Compact_string g 0 cap0 M w5 hH5 (by omega) (by omega)
        rw [hMl] at HCO
        have HCOH := Lib.hid HCO
        have HGB5 := Lib.hid (show w5.heap[g]? = some (.cells cur5 9 (0, 0)) ∧ cap0 ≤ maxLen ∧ cur5.size = cap0 * 1 from ⟨hgb5, hcm5, hcs5⟩)
        clear HCO hgb5 hcm5 hcs5 htk5 hH5
        have hcl : (Lib.compact M).length ≤ n0 := by
          unfold Lib.compact Lib.compactUpTo
          rw [List.length_map]
          exact Nat.le_trans (List.length_filter_le _ _) (by simp [hMl])
        obtain ⟨C, hC⟩ : ∃ C, C = Lib.compact M := ⟨_, rfl⟩
        have HC := Lib.hid hC
        rw [← hC] at HCOH hcl HSE
        clear hC
        obtain ⟨cl, hcl2⟩ : ∃ cl, cl = C.length := ⟨_, rfl⟩
        have HCL := Lib.hid hcl2
        rw [← hcl2] at HCOH hcl
        clear hcl2
        go_wp2_with fail
        refine HCOH.out.mono ?_
        rintro e w6 ⟨rfl, q6, hw6⟩
        have HO6 : Hid (w6.ownsRow w.heap.size 9 1 (.slice (some ⟨g, 0, none⟩) n0 cap0) n0 ((C ++ List.replicate (n0 - cl) []).map nmV) ∧ Below w.heap.size w w6) := Lib.hid (by
          have e6 : w6 = Go.Sort.grow (Go.Sort.putRow encStr (Go.Sort.ahead w5 q6) g 0 (C ++ List.replicate (n0 - cl) []).toArray) #[] := by rw [hw6, Go.Sort.grow_empty]
          rw [e6]
          refine ⟨?_, HB5.out.grown (grownBy_sorted _) HB5.out.size (fun j hj => by cases hj; exact HGB.out.2.2.2.2)⟩
          have := ownsRow_sorted (base := w.heap.size) (n := q6) (os := #[]) (ss := M) (ts := C ++ List.replicate (n0 - cl) []) (by simp; rw [← HCL.out, hMl]; omega) HGB.out.2.2.2.2 HGB5.out.1 (by omega) HGB5.out.2.1 HGB5.out.2.2
          rw [hMl] at this
          exact this)
        clear hw6
        go_wp2
        go_ret
        refine ⟨_, rfl, ?_, HO6.out.2⟩
        rw [HGF.out, ← HSE.out]
        refine Or.inr ⟨g, 0, cap0, by rw [← HCL.out]; rfl, fun j y hj => ?_⟩
        have hjl : j < C.length := (List.getElem?_eq_some_iff.1 hj).1
        have := HO6.out.1.cells (g := g) rfl j (nmV y) (by rw [List.getElem?_map, List.getElem?_append_left hjl, hj]; rfl)
        rw [WideShapes.add_plain, Nat.zero_add] at this
        rw [Nat.zero_add]
        exact this
    end Go.Proofs.YtoodpajbefffhaaDoor
