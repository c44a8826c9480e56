/- The reference's reader of arithmetic: the operator at its place (gen_rab.py). -/
import Derived.Test.YtacfglopionkfaaGreatDoorRaA
import Derived.Test.YtacfglopionkfaaGreatDoorRaSl
import Derived.Test.YtacfglopionkfaaGreatDoorArOp
import Derived.Great.BuildSlice
namespace Go.Proofs.YtacfglopionkfaaGreatDoor
open Go.RowKit

/-- A slice literal of constants of one cell each. -/
theorem wpList_buildVals {P : Program} {ops : Array Oper} {rest : List Oper} {o : Oper} {a : Act} {w : World} {Q : Exit → Act → World → Prop} (hg : o.guard = none) (t e : TypeId) (len : Nat) (parts : Array (Nat × Operand)) (ho : o.op = .buildSlice t len parts)
    (vs : List Value) (hu : P.underlying t = some (.slice e)) (hsz : (P.info? e).map (·.size) = some 1) (hz : ((P.info? e).bind (·.zero)).isSome = true)
    (hlen : len = vs.length) (hpos : 0 < len) (hsmall : len ≤ 2 ^ 24) (hone : ∀ v ∈ vs, v.cells = #[v])
    (hparts : parts.toList = (vs.zipIdx 0).map fun x => (x.2, Operand.const x.1))
    (h : wpList P ops Q rest (a.put o.dst (.slice (some ⟨w.heap.size, 0, none⟩) len len)) (w.alloc (.cells vs.toArray e))) : wpList P ops Q (o :: rest) a w := by
  cases hie : P.info? e with
  | none => simp [hie] at hsz
  | some ie =>
    simp only [hie, Option.map_some, Option.some.injEq, Option.bind_some] at hsz hz
    obtain ⟨z, hzz⟩ := Option.isSome_iff_exists.1 hz
    refine wpList_buildSlice hg t e len parts ho _ ie z hu hie hzz (by rw [hsz]; omega) (by rw [hsz]; omega) ?_ h
    have hp : (parts.map fun (i, x) => (i, a.eval x)).toList = (vs.zipIdx 0).map fun x => (x.2, x.1) := by
      rw [Array.toList_map, hparts, List.map_map]
      rfl
    rw [hp, hsz]
    exact Great.fill_flat _ _ hone (by simp [hlen])

theorem bg_le {r : List Int} {s : ByteArray} (h : begins r s = true) : s.size ≤ r.length ∧ ofBys (r.take s.size) = s := by
  unfold begins at h
  simpa using h
theorem bg_no {r : List Int} {s : ByteArray} (h : ¬ begins r s = true) (hs : s.size ≤ r.length) : ¬ ofBys (r.take s.size) = s := fun e => h (by unfold begins; simp [hs, e])
set_option maxRecDepth 100000 in
set_option maxHeartbeats 8000000 in
theorem ra_sign {l : List Int} {bv : Value} {rb k c q : Nat} {w : World} (h : RaS l bv rb k c q w) :
    Calls Tryz.prog 75 #[.pointer (some ⟨rb, 0, none⟩)] w fun x w' => x = .returned (.string (sgB l k)) ∧ RaS l bv rb (skipN l k) c q w' ∧ Ch rb w w' := by
  have HBL := Lib.hid (ra_blank h)
  have hll := h.len
  have hsgm : Hid (sgB l k = opFrom (l.drop (skipN l k)) (opList.drop 0)) := Lib.hid rfl
  clear h
  generalize sgB l k = sg at *
  obtain ⟨p, hp⟩ : ∃ p, skipN l k = p := ⟨_, rfl⟩
  rw [hp] at HBL hsgm ⊢
  clear hp
  go_enter Tryz.func75, Tryz.ntmps75
  go_wp2_with fail
  refine HBL.out.mono ?_
  rintro x w1 ⟨rfl, hr1, hc1⟩
  have HR1 := Lib.hid hr1
  have HC1 := Lib.hid hc1
  clear hr1 hc1 HBL
  go_wp2_with (first | (refine wpList_buildVals rfl 71 9 35 _ rfl (opList.map Value.string) rfl (by kernel_rfl) (by kernel_rfl) (by decide) (by decide) (by decide) (fun v hv => by obtain ⟨y, _, rfl⟩ := List.mem_map.1 hv; rfl) (by kernel_rfl) ?_) | fail)
  obtain ⟨g, hg⟩ : ∃ g, w1.heap.size = g := ⟨_, rfl⟩
  obtain ⟨wo, hwo⟩ : ∃ wo : World, wo = w1.alloc (.cells (opList.map Value.string).toArray 9) := ⟨_, rfl⟩
  rw [← hwo, hg]
  have HBo : Hid (Below w1.heap.size w1 wo) := Lib.hid (by rw [hwo]; exact (Below.refl _ _).alloc (Nat.le_refl _) _)
  have HGo : Hid (wo.heap[g]? = some (.cells (opList.map Value.string).toArray 9 (0, 0))) := Lib.hid (by rw [hwo, ← hg]; exact heap_alloc_last w1 _)
  have HRo := Lib.hid (HR1.out.next HBo.out)
  have HCo := Lib.hid (HC1.out.step HBo.out (Nat.le_of_lt HR1.out.lt))
  have hrg : rb < g := by rw [← hg]; exact HR1.out.lt
  clear hwo hg HBo
  have hpm := HRo.out.hi
  go_loopw [4, 9] (fun _ i wr => ∃ j : Nat, j ≤ 35 ∧ sg = opFrom (l.drop p) (opList.drop j) ∧ i = .int .i64 j ∧ RaS l bv rb p c q wr ∧ Ch rb w wr ∧ wr.heap[g]? = some (.cells (opList.map Value.string).toArray 9 (0, 0))) (fun _ i _ => 35 - (intOf i).toNat)
  case atStart => exact ⟨0, by omega, hsgm.out, rfl, HRo.out, HCo.out, HGo.out⟩
  case round =>
    obtain ⟨j, hj, hd, rfl, hr, hch, hgb⟩ := hrel
    have HD := Lib.hid hd
    have HR := Lib.hid hr
    have HC := Lib.hid hch
    have HG := Lib.hid hgb
    clear hd hr hch hgb hsgm HRo HCo HGo HR1 HC1
    by_cases hlt : j < 35
    · have hat : wr.cell? ⟨g, j, none⟩ = some (.string (opList.getD j sEmpty)) := by
        rw [Lib.cell_of_heap HG.out j]
        have hl35 : j < opList.length := hlt
        simp [List.getD, List.getElem?_eq_getElem hl35]
      have hfz : wr.frozen? ⟨g, j, none⟩ = false := by simp [World.frozen?, HG.out]
      have hsz := opList_sz j
      have hs1 : 1 ≤ (opList.getD j sEmpty).size := by
        have hl35 : j < opList.length := hlt
        rw [List.getD, List.getElem?_eq_getElem hl35]
        exact (opList_small _ (List.getElem_mem hl35)).1
      have HHIT : Hid (begins (l.drop p) (opList.getD j sEmpty) = true → sg = opList.getD j sEmpty) := Lib.hid fun hb => HD.out.trans (opFrom_hit _ j hlt hb)
      have HMIS : Hid (¬ begins (l.drop p) (opList.getD j sEmpty) = true → sg = opFrom (l.drop p) (opList.drop (j + 1))) := Lib.hid fun hb => HD.out.trans (opFrom_miss _ j hlt hb)
      generalize opList.getD j sEmpty = s at *
      have HX : Hid (∀ X, Below wr.heap.size wr X → X.cell? ⟨rb, 0, none⟩ = some bv ∧ X.cell? ⟨rb, 1, none⟩ = some (.int .i64 p)) := Lib.hid fun X hX => ⟨(HR.out.next hX).cells.1, (HR.out.next hX).cells.2.1⟩
      have hjl : (j : Int) < 35 := by omega
      by_cases hfit : s.size ≤ (l.drop p).length
      · rw [List.length_drop] at hfit
        obtain ⟨x, ox, cap, rfl, hcl, hcm, hrow, hne⟩ := HR.out.row (show p < l.length by omega)
        have HSL : Hid (∀ X, Below wr.heap.size wr X → Sl X (.slice (some ⟨x, ox + p, none⟩) s.size (cap - p)) ((l.drop p).take s.size)) := Lib.hid fun X hX => by
          have hlx := (HR.out.next hX).sl
          have hD := Sl.drop hlx.1 hlx.2.1 hcl hcm (hrow.below hX) p (by omega)
          have hl := hlx.2.1
          have hD1 := hD.1
          rcases hD.2.2 with ⟨h0, _⟩ | ⟨b', o', cap', he, h1, h2, h3⟩
          · have := congrArg List.length h0
            rw [List.length_drop] at this
            simp at this
            omega
          · simp only [Value.slice.injEq, Option.some.injEq, Addr.mk.injEq, and_true] at he
            obtain ⟨⟨rfl, rfl⟩, _, rfl⟩ := he
            rw [List.length_drop] at h1
            exact Sl.take hD1 (by rw [List.length_drop]; omega) (by rw [List.length_drop]; omega) h2 h3 s.size (by rw [List.length_drop]; omega)
        have hcv : Hid (∀ X, Below wr.heap.size wr X → (convert 22 9 (.slice (some ⟨x, ox + p, none⟩) s.size (cap - p))).run Tryz.prog X = .ok (.string (ofBys ((l.drop p).take s.size))) X) := Lib.hid fun X hX => conv_string (HSL.out X hX)
        have hwr : IntKind.i64.wrap ((l.length : Int) - (p : Int)) = (l.length : Int) - (p : Int) := by rw [IntKind.wrap_i64]; omega
        obtain ⟨pe, hpe⟩ : ∃ pe, pe = p + s.size := ⟨_, rfl⟩
        have hwa : IntKind.i64.wrap ((p : Int) + (s.size : Int)) = (pe : Int) := by rw [IntKind.wrap_i64]; omega
        have hpe1 : p ≤ pe := by omega
        have hpe2 : pe ≤ cap := by omega
        have hpe3 : pe - p = s.size := by omega
        clear hpe
        have hgei : (s.size : Int) ≤ (l.length : Int) - (p : Int) := by omega
        have hdec : decide ((s.size : Int) ≤ (l.length : Int) - (p : Int)) = true := by simpa using hgei
        have hcp : cap ≠ p := by omega
        have hcpi : ¬ (cap : Int) = p := by omega
        have hdr : s.size ≤ (l.drop p).length := by rw [List.length_drop]; exact hfit
        by_cases hb : begins (l.drop p) s = true
        · have hsg := HHIT.out hb
          have huq : ofBys ((l.drop p).take s.size) = s := (bg_le hb).2
          have HU := Lib.hid huq
          rw [HU.out] at hcv
          have hss : (s.toList == s.toList) = true := by simp
          clear hb huq hdr HMIS HHIT
          have HSG := Lib.hid hsg
          clear hsg
          go_wp2
          refine Reg.wp_region_vals (fun X => Below wr.heap.size wr X) (fun j => ([some (.pointer (some ⟨rb, 0, none⟩)), some (.pointer (some ⟨rb, 0, none⟩)), some (.pointer (some ⟨rb, 0, none⟩)), some (.slice (some ⟨x, ox, none⟩) l.length cap), some (.int .i64 l.length), some (.pointer (some ⟨rb, 0, none⟩)), some (.pointer (some ⟨rb, 0, none⟩)), some (.pointer (some ⟨rb, 1, none⟩)), some (.int .i64 p), some (.int .i64 ((l.length : Int) - p)), some (.string s), some (.int .i64 s.size), some (.bool true), some (.bool true), some (.pointer (some ⟨rb, 0, none⟩)), some (.pointer (some ⟨rb, 0, none⟩)), some (.pointer (some ⟨rb, 0, none⟩)), some (.slice (some ⟨x, ox, none⟩) l.length cap), some (.pointer (some ⟨rb, 0, none⟩)), some (.pointer (some ⟨rb, 0, none⟩)), some (.pointer (some ⟨rb, 1, none⟩)), some (.int .i64 p), some (.pointer (some ⟨rb, 0, none⟩)), some (.pointer (some ⟨rb, 0, none⟩)), some (.pointer (some ⟨rb, 1, none⟩)), some (.int .i64 p), some (.string s), some (.int .i64 s.size), some (.int .i64 (pe : Nat)), some (.slice (some ⟨x, ox + p, none⟩) s.size (cap - p)), some (.string s), some (.string s), some (.bool true), some (.bool true)] : List (Option Value)).getD j none) (fun _ _ _ => True) (by kernel_rfl) (by kernel_rfl) (by kernel_rfl) (by kernel_rfl) ?rs0 ?rsE ?rsZ
          case rs0 => exact (Below.refl _ _).drew
          case rsE =>
            refine Reg.EachV.plain rfl (fun T X hS hk K hK => ?_) ?_
            · skip
              have g0 : T[0]? = some (.pointer (some ⟨rb, 0, none⟩)) := hk.old 0 (by kernel_rfl) rfl
              have hK := hK _ X hS (Reg.Is.of_val rfl) (fun _ _ _ h => h)
              clear hk
              go_simp
              exact hK
            refine Reg.EachV.plain rfl (fun T X hS hk K hK => ?_) ?_
            · skip
              have g13 : T[13]? = some (.pointer (some ⟨rb, 0, none⟩)) := hk.val 0 13 (by kernel_rfl) (by kernel_rfl) rfl
              have hK := hK _ X hS (Reg.Is.of_val rfl) (fun _ _ _ h => h)
              clear hk
              go_simp
              exact hK
            refine Reg.EachV.plain rfl (fun T X hS hk K hK => ?_) ?_
            · skip
              have g14 : T[14]? = some (.pointer (some ⟨rb, 0, none⟩)) := hk.val 1 14 (by kernel_rfl) (by kernel_rfl) rfl
              have hK := hK _ X hS (Reg.Is.of_val rfl) (fun _ _ _ h => h)
              clear hk
              go_simp
              exact hK
            refine Reg.EachV.plain rfl (fun T X hS hk K hK => ?_) ?_
            · skip
              have g15 : T[15]? = some (.pointer (some ⟨rb, 0, none⟩)) := hk.val 2 15 (by kernel_rfl) (by kernel_rfl) rfl
              obtain ⟨e0, e1⟩ := HX.out X hS
              have hK := hK _ X hS (Reg.Is.of_val rfl) (fun _ _ _ h => h)
              clear hk
              go_simp
              exact hK
            refine Reg.EachV.plain rfl (fun T X hS hk K hK => ?_) ?_
            · skip
              have g16 : T[16]? = some (.slice (some ⟨x, ox, none⟩) l.length cap) := hk.val 3 16 (by kernel_rfl) (by kernel_rfl) rfl
              have hK := hK _ X hS (Reg.Is.of_val rfl) (fun _ _ _ h => h)
              clear hk
              go_simp
              exact hK
            refine Reg.EachV.plain rfl (fun T X hS hk K hK => ?_) ?_
            · skip
              have g0 : T[0]? = some (.pointer (some ⟨rb, 0, none⟩)) := hk.old 0 (by kernel_rfl) rfl
              have hK := hK _ X hS (Reg.Is.of_val rfl) (fun _ _ _ h => h)
              clear hk
              go_simp
              exact hK
            refine Reg.EachV.plain rfl (fun T X hS hk K hK => ?_) ?_
            · skip
              have g18 : T[18]? = some (.pointer (some ⟨rb, 0, none⟩)) := hk.val 5 18 (by kernel_rfl) (by kernel_rfl) rfl
              have hK := hK _ X hS (Reg.Is.of_val rfl) (fun _ _ _ h => h)
              clear hk
              go_simp
              exact hK
            refine Reg.EachV.plain rfl (fun T X hS hk K hK => ?_) ?_
            · skip
              have g19 : T[19]? = some (.pointer (some ⟨rb, 0, none⟩)) := hk.val 6 19 (by kernel_rfl) (by kernel_rfl) rfl
              have hK := hK _ X hS (Reg.Is.of_val rfl) (fun _ _ _ h => h)
              clear hk
              go_simp
              exact hK
            refine Reg.EachV.plain rfl (fun T X hS hk K hK => ?_) ?_
            · skip
              have g20 : T[20]? = some (.pointer (some ⟨rb, 1, none⟩)) := hk.val 7 20 (by kernel_rfl) (by kernel_rfl) rfl
              obtain ⟨e0, e1⟩ := HX.out X hS
              have hK := hK _ X hS (Reg.Is.of_val rfl) (fun _ _ _ h => h)
              clear hk
              go_simp
              exact hK
            refine Reg.EachV.plain rfl (fun T X hS hk K hK => ?_) ?_
            · skip
              have g17 : T[17]? = some (.int .i64 l.length) := hk.val 4 17 (by kernel_rfl) (by kernel_rfl) rfl
              have g21 : T[21]? = some (.int .i64 p) := hk.val 8 21 (by kernel_rfl) (by kernel_rfl) rfl
              have hK := hK _ X hS (Reg.Is.of_val rfl) (fun _ _ _ h => h)
              clear hk
              go_simp
              exact hK
            refine Reg.EachV.plain rfl (fun T X hS hk K hK => ?_) ?_
            · skip
              have g4 : T[4]? = some (.string s) := hk.old 4 (by kernel_rfl) rfl
              have hK := hK _ X hS (Reg.Is.of_val rfl) (fun _ _ _ h => h)
              clear hk
              go_simp
              exact hK
            refine Reg.EachV.plain rfl (fun T X hS hk K hK => ?_) ?_
            · skip
              have g23 : T[23]? = some (.string s) := hk.val 10 23 (by kernel_rfl) (by kernel_rfl) rfl
              have hK := hK _ X hS (Reg.Is.of_val rfl) (fun _ _ _ h => h)
              clear hk
              go_simp
              exact hK
            refine Reg.EachV.plain rfl (fun T X hS hk K hK => ?_) ?_
            · skip
              have g22 : T[22]? = some (.int .i64 ((l.length : Int) - p)) := hk.val 9 22 (by kernel_rfl) (by kernel_rfl) rfl
              have g24 : T[24]? = some (.int .i64 s.size) := hk.val 11 24 (by kernel_rfl) (by kernel_rfl) rfl
              have hK := hK _ X hS (Reg.Is.of_val rfl) (fun _ _ _ h => h)
              clear hk
              go_simp
              exact hK
            refine Reg.EachV.plain rfl (fun T X hS hk K hK => ?_) ?_
            · skip
              have g25 : T[25]? = some (.bool true) := hk.val 12 25 (by kernel_rfl) (by kernel_rfl) rfl
              have hK := hK _ X hS (Reg.Is.of_val rfl) (fun _ _ _ h => h)
              clear hk
              go_simp
              exact hK
            refine Reg.EachV.guarded 13 26 true rfl (by kernel_rfl) (by kernel_rfl) rfl (fun T X hS hk K hK => ?_) ?_
            · skip
              have g0 : T[0]? = some (.pointer (some ⟨rb, 0, none⟩)) := hk.old 0 (by kernel_rfl) rfl
              have hK := hK _ X hS (Reg.Is.of_val rfl) (fun _ _ _ h => h)
              clear hk
              go_simp
              exact hK
            refine Reg.EachV.guarded 13 26 true rfl (by kernel_rfl) (by kernel_rfl) rfl (fun T X hS hk K hK => ?_) ?_
            · skip
              have g27 : T[27]? = some (.pointer (some ⟨rb, 0, none⟩)) := hk.val 14 27 (by kernel_rfl) (by kernel_rfl) rfl
              have hK := hK _ X hS (Reg.Is.of_val rfl) (fun _ _ _ h => h)
              clear hk
              go_simp
              exact hK
            refine Reg.EachV.guarded 13 26 true rfl (by kernel_rfl) (by kernel_rfl) rfl (fun T X hS hk K hK => ?_) ?_
            · skip
              have g28 : T[28]? = some (.pointer (some ⟨rb, 0, none⟩)) := hk.val 15 28 (by kernel_rfl) (by kernel_rfl) rfl
              have hK := hK _ X hS (Reg.Is.of_val rfl) (fun _ _ _ h => h)
              clear hk
              go_simp
              exact hK
            refine Reg.EachV.guarded 13 26 true rfl (by kernel_rfl) (by kernel_rfl) rfl (fun T X hS hk K hK => ?_) ?_
            · skip
              have g29 : T[29]? = some (.pointer (some ⟨rb, 0, none⟩)) := hk.val 16 29 (by kernel_rfl) (by kernel_rfl) rfl
              obtain ⟨e0, e1⟩ := HX.out X hS
              have hK := hK _ X hS (Reg.Is.of_val rfl) (fun _ _ _ h => h)
              clear hk
              go_simp
              exact hK
            refine Reg.EachV.guarded 13 26 true rfl (by kernel_rfl) (by kernel_rfl) rfl (fun T X hS hk K hK => ?_) ?_
            · skip
              have g0 : T[0]? = some (.pointer (some ⟨rb, 0, none⟩)) := hk.old 0 (by kernel_rfl) rfl
              have hK := hK _ X hS (Reg.Is.of_val rfl) (fun _ _ _ h => h)
              clear hk
              go_simp
              exact hK
            refine Reg.EachV.guarded 13 26 true rfl (by kernel_rfl) (by kernel_rfl) rfl (fun T X hS hk K hK => ?_) ?_
            · skip
              have g31 : T[31]? = some (.pointer (some ⟨rb, 0, none⟩)) := hk.val 18 31 (by kernel_rfl) (by kernel_rfl) rfl
              have hK := hK _ X hS (Reg.Is.of_val rfl) (fun _ _ _ h => h)
              clear hk
              go_simp
              exact hK
            refine Reg.EachV.guarded 13 26 true rfl (by kernel_rfl) (by kernel_rfl) rfl (fun T X hS hk K hK => ?_) ?_
            · skip
              have g32 : T[32]? = some (.pointer (some ⟨rb, 0, none⟩)) := hk.val 19 32 (by kernel_rfl) (by kernel_rfl) rfl
              have hK := hK _ X hS (Reg.Is.of_val rfl) (fun _ _ _ h => h)
              clear hk
              go_simp
              exact hK
            refine Reg.EachV.guarded 13 26 true rfl (by kernel_rfl) (by kernel_rfl) rfl (fun T X hS hk K hK => ?_) ?_
            · skip
              have g33 : T[33]? = some (.pointer (some ⟨rb, 1, none⟩)) := hk.val 20 33 (by kernel_rfl) (by kernel_rfl) rfl
              obtain ⟨e0, e1⟩ := HX.out X hS
              have hK := hK _ X hS (Reg.Is.of_val rfl) (fun _ _ _ h => h)
              clear hk
              go_simp
              exact hK
            refine Reg.EachV.guarded 13 26 true rfl (by kernel_rfl) (by kernel_rfl) rfl (fun T X hS hk K hK => ?_) ?_
            · skip
              have g0 : T[0]? = some (.pointer (some ⟨rb, 0, none⟩)) := hk.old 0 (by kernel_rfl) rfl
              have hK := hK _ X hS (Reg.Is.of_val rfl) (fun _ _ _ h => h)
              clear hk
              go_simp
              exact hK
            refine Reg.EachV.guarded 13 26 true rfl (by kernel_rfl) (by kernel_rfl) rfl (fun T X hS hk K hK => ?_) ?_
            · skip
              have g35 : T[35]? = some (.pointer (some ⟨rb, 0, none⟩)) := hk.val 22 35 (by kernel_rfl) (by kernel_rfl) rfl
              have hK := hK _ X hS (Reg.Is.of_val rfl) (fun _ _ _ h => h)
              clear hk
              go_simp
              exact hK
            refine Reg.EachV.guarded 13 26 true rfl (by kernel_rfl) (by kernel_rfl) rfl (fun T X hS hk K hK => ?_) ?_
            · skip
              have g36 : T[36]? = some (.pointer (some ⟨rb, 0, none⟩)) := hk.val 23 36 (by kernel_rfl) (by kernel_rfl) rfl
              have hK := hK _ X hS (Reg.Is.of_val rfl) (fun _ _ _ h => h)
              clear hk
              go_simp
              exact hK
            refine Reg.EachV.guarded 13 26 true rfl (by kernel_rfl) (by kernel_rfl) rfl (fun T X hS hk K hK => ?_) ?_
            · skip
              have g37 : T[37]? = some (.pointer (some ⟨rb, 1, none⟩)) := hk.val 24 37 (by kernel_rfl) (by kernel_rfl) rfl
              obtain ⟨e0, e1⟩ := HX.out X hS
              have hK := hK _ X hS (Reg.Is.of_val rfl) (fun _ _ _ h => h)
              clear hk
              go_simp
              exact hK
            refine Reg.EachV.guarded 13 26 true rfl (by kernel_rfl) (by kernel_rfl) rfl (fun T X hS hk K hK => ?_) ?_
            · skip
              have g4 : T[4]? = some (.string s) := hk.old 4 (by kernel_rfl) rfl
              have hK := hK _ X hS (Reg.Is.of_val rfl) (fun _ _ _ h => h)
              clear hk
              go_simp
              exact hK
            refine Reg.EachV.guarded 13 26 true rfl (by kernel_rfl) (by kernel_rfl) rfl (fun T X hS hk K hK => ?_) ?_
            · skip
              have g39 : T[39]? = some (.string s) := hk.val 26 39 (by kernel_rfl) (by kernel_rfl) rfl
              have hK := hK _ X hS (Reg.Is.of_val rfl) (fun _ _ _ h => h)
              clear hk
              go_simp
              exact hK
            refine Reg.EachV.guarded 13 26 true rfl (by kernel_rfl) (by kernel_rfl) rfl (fun T X hS hk K hK => ?_) ?_
            · skip
              have g38 : T[38]? = some (.int .i64 p) := hk.val 25 38 (by kernel_rfl) (by kernel_rfl) rfl
              have g40 : T[40]? = some (.int .i64 s.size) := hk.val 27 40 (by kernel_rfl) (by kernel_rfl) rfl
              have hK := hK _ X hS (Reg.Is.of_val rfl) (fun _ _ _ h => h)
              clear hk
              go_simp
              exact hK
            refine Reg.EachV.guarded 13 26 true rfl (by kernel_rfl) (by kernel_rfl) rfl (fun T X hS hk K hK => ?_) ?_
            · skip
              have g30 : T[30]? = some (.slice (some ⟨x, ox, none⟩) l.length cap) := hk.val 17 30 (by kernel_rfl) (by kernel_rfl) rfl
              have g34 : T[34]? = some (.int .i64 p) := hk.val 21 34 (by kernel_rfl) (by kernel_rfl) rfl
              have g41 : T[41]? = some (.int .i64 (pe : Nat)) := hk.val 28 41 (by kernel_rfl) (by kernel_rfl) rfl
              have hK := hK _ X hS (Reg.Is.of_val rfl) (fun _ _ _ h => h)
              clear hk
              go_simp
              exact hK
            refine Reg.EachV.guarded 13 26 true rfl (by kernel_rfl) (by kernel_rfl) rfl (fun T X hS hk K hK => ?_) ?_
            · skip
              have g42 : T[42]? = some (.slice (some ⟨x, ox + p, none⟩) s.size (cap - p)) := hk.val 29 42 (by kernel_rfl) (by kernel_rfl) rfl
              have e4 := hcv.out X hS
              have hK := hK _ X hS (Reg.Is.of_val rfl) (fun _ _ _ h => h)
              clear hk
              go_simp
              exact hK
            refine Reg.EachV.guarded 13 26 true rfl (by kernel_rfl) (by kernel_rfl) rfl (fun T X hS hk K hK => ?_) ?_
            · skip
              have g4 : T[4]? = some (.string s) := hk.old 4 (by kernel_rfl) rfl
              have hK := hK _ X hS (Reg.Is.of_val rfl) (fun _ _ _ h => h)
              clear hk
              go_simp
              exact hK
            refine Reg.EachV.guarded 13 26 true rfl (by kernel_rfl) (by kernel_rfl) rfl (fun T X hS hk K hK => ?_) ?_
            · skip
              have g43 : T[43]? = some (.string s) := hk.val 30 43 (by kernel_rfl) (by kernel_rfl) rfl
              have g44 : T[44]? = some (.string s) := hk.val 31 44 (by kernel_rfl) (by kernel_rfl) rfl
              have hK := hK _ X hS (Reg.Is.of_val rfl) (fun _ _ _ h => h)
              clear hk
              go_simp
              exact hK
            refine Reg.EachV.plain rfl (fun T X hS hk K hK => ?_) ?_
            · skip
              have g26 : T[26]? = some (.bool true) := hk.val 13 26 (by kernel_rfl) (by kernel_rfl) rfl
              have g45 : T[45]? = some (.bool true) := hk.val 32 45 (by kernel_rfl) (by kernel_rfl) rfl
              have hK := hK _ X hS (Reg.Is.of_val rfl) (fun _ _ _ h => h)
              clear hk
              go_simp
              exact hK
            exact Reg.EachV.nil
          case rsZ =>
            intro u w1 hS hI
            have e0 : u 0 = .pointer (some ⟨rb, 0, none⟩) := (hI 0 (by decide)).val rfl
            have e1 : u 1 = .pointer (some ⟨rb, 0, none⟩) := (hI 1 (by decide)).val rfl
            have e2 : u 2 = .pointer (some ⟨rb, 0, none⟩) := (hI 2 (by decide)).val rfl
            have e3 : u 3 = .slice (some ⟨x, ox, none⟩) l.length cap := (hI 3 (by decide)).val rfl
            have e4 : u 4 = .int .i64 l.length := (hI 4 (by decide)).val rfl
            have e5 : u 5 = .pointer (some ⟨rb, 0, none⟩) := (hI 5 (by decide)).val rfl
            have e6 : u 6 = .pointer (some ⟨rb, 0, none⟩) := (hI 6 (by decide)).val rfl
            have e7 : u 7 = .pointer (some ⟨rb, 1, none⟩) := (hI 7 (by decide)).val rfl
            have e8 : u 8 = .int .i64 p := (hI 8 (by decide)).val rfl
            have e9 : u 9 = .int .i64 ((l.length : Int) - p) := (hI 9 (by decide)).val rfl
            have e10 : u 10 = .string s := (hI 10 (by decide)).val rfl
            have e11 : u 11 = .int .i64 s.size := (hI 11 (by decide)).val rfl
            have e12 : u 12 = .bool true := (hI 12 (by decide)).val rfl
            have e13 : u 13 = .bool true := (hI 13 (by decide)).val rfl
            have e14 : u 14 = .pointer (some ⟨rb, 0, none⟩) := (hI 14 (by decide)).val rfl
            have e15 : u 15 = .pointer (some ⟨rb, 0, none⟩) := (hI 15 (by decide)).val rfl
            have e16 : u 16 = .pointer (some ⟨rb, 0, none⟩) := (hI 16 (by decide)).val rfl
            have e17 : u 17 = .slice (some ⟨x, ox, none⟩) l.length cap := (hI 17 (by decide)).val rfl
            have e18 : u 18 = .pointer (some ⟨rb, 0, none⟩) := (hI 18 (by decide)).val rfl
            have e19 : u 19 = .pointer (some ⟨rb, 0, none⟩) := (hI 19 (by decide)).val rfl
            have e20 : u 20 = .pointer (some ⟨rb, 1, none⟩) := (hI 20 (by decide)).val rfl
            have e21 : u 21 = .int .i64 p := (hI 21 (by decide)).val rfl
            have e22 : u 22 = .pointer (some ⟨rb, 0, none⟩) := (hI 22 (by decide)).val rfl
            have e23 : u 23 = .pointer (some ⟨rb, 0, none⟩) := (hI 23 (by decide)).val rfl
            have e24 : u 24 = .pointer (some ⟨rb, 1, none⟩) := (hI 24 (by decide)).val rfl
            have e25 : u 25 = .int .i64 p := (hI 25 (by decide)).val rfl
            have e26 : u 26 = .string s := (hI 26 (by decide)).val rfl
            have e27 : u 27 = .int .i64 s.size := (hI 27 (by decide)).val rfl
            have e28 : u 28 = .int .i64 (pe : Nat) := (hI 28 (by decide)).val rfl
            have e29 : u 29 = .slice (some ⟨x, ox + p, none⟩) s.size (cap - p) := (hI 29 (by decide)).val rfl
            have e30 : u 30 = .string s := (hI 30 (by decide)).val rfl
            have e31 : u 31 = .string s := (hI 31 (by decide)).val rfl
            have e32 : u 32 = .bool true := (hI 32 (by decide)).val rfl
            have e33 : u 33 = .bool true := (hI 33 (by decide)).val rfl
            clear hI
            simp only [Reg.putAll, Act.put, List.setIfInBounds_toArray, List.set_cons_succ, List.set_cons_zero, Nat.zero_add, Nat.reduceAdd, e0, e1, e2, e3, e4, e5, e6, e7, e8, e9, e10, e11, e12, e13, e14, e15, e16, e17, e18, e19, e20, e21, e22, e23, e24, e25, e26, e27, e28, e29, e30, e31, e32, e33]
            clear e0 e1 e2 e3 e4 e5 e6 e7 e8 e9 e10 e11 e12 e13 e14 e15 e16 e17 e18 e19 e20 e21 e22 e23 e24 e25 e26 e27 e28 e29 e30 e31 e32 e33
            have HZ := Lib.hid hS
            clear hS
            go_wp2
            go_ret
            exact ⟨ret_str HSG.out.symm, HR.out.next HZ.out, HC.out.step HZ.out (Nat.le_of_lt HR.out.lt)⟩
        · have hmis := HMIS.out hb
          have huq := bg_no hb hdr
          have HMI := Lib.hid hmis
          generalize ofBys ((l.drop p).take s.size) = tu at *
          have hss : (tu.toList == s.toList) = false := by rw [toList_beq]; simpa using huq
          clear hb huq hdr hmis HHIT HMIS
          go_wp2
          refine Reg.wp_region_vals (fun X => Below wr.heap.size wr X) (fun j => ([some (.pointer (some ⟨rb, 0, none⟩)), some (.pointer (some ⟨rb, 0, none⟩)), some (.pointer (some ⟨rb, 0, none⟩)), some (.slice (some ⟨x, ox, none⟩) l.length cap), some (.int .i64 l.length), some (.pointer (some ⟨rb, 0, none⟩)), some (.pointer (some ⟨rb, 0, none⟩)), some (.pointer (some ⟨rb, 1, none⟩)), some (.int .i64 p), some (.int .i64 ((l.length : Int) - p)), some (.string s), some (.int .i64 s.size), some (.bool true), some (.bool true), some (.pointer (some ⟨rb, 0, none⟩)), some (.pointer (some ⟨rb, 0, none⟩)), some (.pointer (some ⟨rb, 0, none⟩)), some (.slice (some ⟨x, ox, none⟩) l.length cap), some (.pointer (some ⟨rb, 0, none⟩)), some (.pointer (some ⟨rb, 0, none⟩)), some (.pointer (some ⟨rb, 1, none⟩)), some (.int .i64 p), some (.pointer (some ⟨rb, 0, none⟩)), some (.pointer (some ⟨rb, 0, none⟩)), some (.pointer (some ⟨rb, 1, none⟩)), some (.int .i64 p), some (.string s), some (.int .i64 s.size), some (.int .i64 (pe : Nat)), some (.slice (some ⟨x, ox + p, none⟩) s.size (cap - p)), some (.string tu), some (.string s), some (.bool false), some (.bool false)] : List (Option Value)).getD j none) (fun _ _ _ => True) (by kernel_rfl) (by kernel_rfl) (by kernel_rfl) (by kernel_rfl) ?rs0 ?rsE ?rsZ
          case rs0 => exact (Below.refl _ _).drew
          case rsE =>
            refine Reg.EachV.plain rfl (fun T X hS hk K hK => ?_) ?_
            · skip
              have g0 : T[0]? = some (.pointer (some ⟨rb, 0, none⟩)) := hk.old 0 (by kernel_rfl) rfl
              have hK := hK _ X hS (Reg.Is.of_val rfl) (fun _ _ _ h => h)
              clear hk
              go_simp
              exact hK
            refine Reg.EachV.plain rfl (fun T X hS hk K hK => ?_) ?_
            · skip
              have g13 : T[13]? = some (.pointer (some ⟨rb, 0, none⟩)) := hk.val 0 13 (by kernel_rfl) (by kernel_rfl) rfl
              have hK := hK _ X hS (Reg.Is.of_val rfl) (fun _ _ _ h => h)
              clear hk
              go_simp
              exact hK
            refine Reg.EachV.plain rfl (fun T X hS hk K hK => ?_) ?_
            · skip
              have g14 : T[14]? = some (.pointer (some ⟨rb, 0, none⟩)) := hk.val 1 14 (by kernel_rfl) (by kernel_rfl) rfl
              have hK := hK _ X hS (Reg.Is.of_val rfl) (fun _ _ _ h => h)
              clear hk
              go_simp
              exact hK
            refine Reg.EachV.plain rfl (fun T X hS hk K hK => ?_) ?_
            · skip
              have g15 : T[15]? = some (.pointer (some ⟨rb, 0, none⟩)) := hk.val 2 15 (by kernel_rfl) (by kernel_rfl) rfl
              obtain ⟨e0, e1⟩ := HX.out X hS
              have hK := hK _ X hS (Reg.Is.of_val rfl) (fun _ _ _ h => h)
              clear hk
              go_simp
              exact hK
            refine Reg.EachV.plain rfl (fun T X hS hk K hK => ?_) ?_
            · skip
              have g16 : T[16]? = some (.slice (some ⟨x, ox, none⟩) l.length cap) := hk.val 3 16 (by kernel_rfl) (by kernel_rfl) rfl
              have hK := hK _ X hS (Reg.Is.of_val rfl) (fun _ _ _ h => h)
              clear hk
              go_simp
              exact hK
            refine Reg.EachV.plain rfl (fun T X hS hk K hK => ?_) ?_
            · skip
              have g0 : T[0]? = some (.pointer (some ⟨rb, 0, none⟩)) := hk.old 0 (by kernel_rfl) rfl
              have hK := hK _ X hS (Reg.Is.of_val rfl) (fun _ _ _ h => h)
              clear hk
              go_simp
              exact hK
            refine Reg.EachV.plain rfl (fun T X hS hk K hK => ?_) ?_
            · skip
              have g18 : T[18]? = some (.pointer (some ⟨rb, 0, none⟩)) := hk.val 5 18 (by kernel_rfl) (by kernel_rfl) rfl
              have hK := hK _ X hS (Reg.Is.of_val rfl) (fun _ _ _ h => h)
              clear hk
              go_simp
              exact hK
            refine Reg.EachV.plain rfl (fun T X hS hk K hK => ?_) ?_
            · skip
              have g19 : T[19]? = some (.pointer (some ⟨rb, 0, none⟩)) := hk.val 6 19 (by kernel_rfl) (by kernel_rfl) rfl
              have hK := hK _ X hS (Reg.Is.of_val rfl) (fun _ _ _ h => h)
              clear hk
              go_simp
              exact hK
            refine Reg.EachV.plain rfl (fun T X hS hk K hK => ?_) ?_
            · skip
              have g20 : T[20]? = some (.pointer (some ⟨rb, 1, none⟩)) := hk.val 7 20 (by kernel_rfl) (by kernel_rfl) rfl
              obtain ⟨e0, e1⟩ := HX.out X hS
              have hK := hK _ X hS (Reg.Is.of_val rfl) (fun _ _ _ h => h)
              clear hk
              go_simp
              exact hK
            refine Reg.EachV.plain rfl (fun T X hS hk K hK => ?_) ?_
            · skip
              have g17 : T[17]? = some (.int .i64 l.length) := hk.val 4 17 (by kernel_rfl) (by kernel_rfl) rfl
              have g21 : T[21]? = some (.int .i64 p) := hk.val 8 21 (by kernel_rfl) (by kernel_rfl) rfl
              have hK := hK _ X hS (Reg.Is.of_val rfl) (fun _ _ _ h => h)
              clear hk
              go_simp
              exact hK
            refine Reg.EachV.plain rfl (fun T X hS hk K hK => ?_) ?_
            · skip
              have g4 : T[4]? = some (.string s) := hk.old 4 (by kernel_rfl) rfl
              have hK := hK _ X hS (Reg.Is.of_val rfl) (fun _ _ _ h => h)
              clear hk
              go_simp
              exact hK
            refine Reg.EachV.plain rfl (fun T X hS hk K hK => ?_) ?_
            · skip
              have g23 : T[23]? = some (.string s) := hk.val 10 23 (by kernel_rfl) (by kernel_rfl) rfl
              have hK := hK _ X hS (Reg.Is.of_val rfl) (fun _ _ _ h => h)
              clear hk
              go_simp
              exact hK
            refine Reg.EachV.plain rfl (fun T X hS hk K hK => ?_) ?_
            · skip
              have g22 : T[22]? = some (.int .i64 ((l.length : Int) - p)) := hk.val 9 22 (by kernel_rfl) (by kernel_rfl) rfl
              have g24 : T[24]? = some (.int .i64 s.size) := hk.val 11 24 (by kernel_rfl) (by kernel_rfl) rfl
              have hK := hK _ X hS (Reg.Is.of_val rfl) (fun _ _ _ h => h)
              clear hk
              go_simp
              exact hK
            refine Reg.EachV.plain rfl (fun T X hS hk K hK => ?_) ?_
            · skip
              have g25 : T[25]? = some (.bool true) := hk.val 12 25 (by kernel_rfl) (by kernel_rfl) rfl
              have hK := hK _ X hS (Reg.Is.of_val rfl) (fun _ _ _ h => h)
              clear hk
              go_simp
              exact hK
            refine Reg.EachV.guarded 13 26 true rfl (by kernel_rfl) (by kernel_rfl) rfl (fun T X hS hk K hK => ?_) ?_
            · skip
              have g0 : T[0]? = some (.pointer (some ⟨rb, 0, none⟩)) := hk.old 0 (by kernel_rfl) rfl
              have hK := hK _ X hS (Reg.Is.of_val rfl) (fun _ _ _ h => h)
              clear hk
              go_simp
              exact hK
            refine Reg.EachV.guarded 13 26 true rfl (by kernel_rfl) (by kernel_rfl) rfl (fun T X hS hk K hK => ?_) ?_
            · skip
              have g27 : T[27]? = some (.pointer (some ⟨rb, 0, none⟩)) := hk.val 14 27 (by kernel_rfl) (by kernel_rfl) rfl
              have hK := hK _ X hS (Reg.Is.of_val rfl) (fun _ _ _ h => h)
              clear hk
              go_simp
              exact hK
            refine Reg.EachV.guarded 13 26 true rfl (by kernel_rfl) (by kernel_rfl) rfl (fun T X hS hk K hK => ?_) ?_
            · skip
              have g28 : T[28]? = some (.pointer (some ⟨rb, 0, none⟩)) := hk.val 15 28 (by kernel_rfl) (by kernel_rfl) rfl
              have hK := hK _ X hS (Reg.Is.of_val rfl) (fun _ _ _ h => h)
              clear hk
              go_simp
              exact hK
            refine Reg.EachV.guarded 13 26 true rfl (by kernel_rfl) (by kernel_rfl) rfl (fun T X hS hk K hK => ?_) ?_
            · skip
              have g29 : T[29]? = some (.pointer (some ⟨rb, 0, none⟩)) := hk.val 16 29 (by kernel_rfl) (by kernel_rfl) rfl
              obtain ⟨e0, e1⟩ := HX.out X hS
              have hK := hK _ X hS (Reg.Is.of_val rfl) (fun _ _ _ h => h)
              clear hk
              go_simp
              exact hK
            refine Reg.EachV.guarded 13 26 true rfl (by kernel_rfl) (by kernel_rfl) rfl (fun T X hS hk K hK => ?_) ?_
            · skip
              have g0 : T[0]? = some (.pointer (some ⟨rb, 0, none⟩)) := hk.old 0 (by kernel_rfl) rfl
              have hK := hK _ X hS (Reg.Is.of_val rfl) (fun _ _ _ h => h)
              clear hk
              go_simp
              exact hK
            refine Reg.EachV.guarded 13 26 true rfl (by kernel_rfl) (by kernel_rfl) rfl (fun T X hS hk K hK => ?_) ?_
            · skip
              have g31 : T[31]? = some (.pointer (some ⟨rb, 0, none⟩)) := hk.val 18 31 (by kernel_rfl) (by kernel_rfl) rfl
              have hK := hK _ X hS (Reg.Is.of_val rfl) (fun _ _ _ h => h)
              clear hk
              go_simp
              exact hK
            refine Reg.EachV.guarded 13 26 true rfl (by kernel_rfl) (by kernel_rfl) rfl (fun T X hS hk K hK => ?_) ?_
            · skip
              have g32 : T[32]? = some (.pointer (some ⟨rb, 0, none⟩)) := hk.val 19 32 (by kernel_rfl) (by kernel_rfl) rfl
              have hK := hK _ X hS (Reg.Is.of_val rfl) (fun _ _ _ h => h)
              clear hk
              go_simp
              exact hK
            refine Reg.EachV.guarded 13 26 true rfl (by kernel_rfl) (by kernel_rfl) rfl (fun T X hS hk K hK => ?_) ?_
            · skip
              have g33 : T[33]? = some (.pointer (some ⟨rb, 1, none⟩)) := hk.val 20 33 (by kernel_rfl) (by kernel_rfl) rfl
              obtain ⟨e0, e1⟩ := HX.out X hS
              have hK := hK _ X hS (Reg.Is.of_val rfl) (fun _ _ _ h => h)
              clear hk
              go_simp
              exact hK
            refine Reg.EachV.guarded 13 26 true rfl (by kernel_rfl) (by kernel_rfl) rfl (fun T X hS hk K hK => ?_) ?_
            · skip
              have g0 : T[0]? = some (.pointer (some ⟨rb, 0, none⟩)) := hk.old 0 (by kernel_rfl) rfl
              have hK := hK _ X hS (Reg.Is.of_val rfl) (fun _ _ _ h => h)
              clear hk
              go_simp
              exact hK
            refine Reg.EachV.guarded 13 26 true rfl (by kernel_rfl) (by kernel_rfl) rfl (fun T X hS hk K hK => ?_) ?_
            · skip
              have g35 : T[35]? = some (.pointer (some ⟨rb, 0, none⟩)) := hk.val 22 35 (by kernel_rfl) (by kernel_rfl) rfl
              have hK := hK _ X hS (Reg.Is.of_val rfl) (fun _ _ _ h => h)
              clear hk
              go_simp
              exact hK
            refine Reg.EachV.guarded 13 26 true rfl (by kernel_rfl) (by kernel_rfl) rfl (fun T X hS hk K hK => ?_) ?_
            · skip
              have g36 : T[36]? = some (.pointer (some ⟨rb, 0, none⟩)) := hk.val 23 36 (by kernel_rfl) (by kernel_rfl) rfl
              have hK := hK _ X hS (Reg.Is.of_val rfl) (fun _ _ _ h => h)
              clear hk
              go_simp
              exact hK
            refine Reg.EachV.guarded 13 26 true rfl (by kernel_rfl) (by kernel_rfl) rfl (fun T X hS hk K hK => ?_) ?_
            · skip
              have g37 : T[37]? = some (.pointer (some ⟨rb, 1, none⟩)) := hk.val 24 37 (by kernel_rfl) (by kernel_rfl) rfl
              obtain ⟨e0, e1⟩ := HX.out X hS
              have hK := hK _ X hS (Reg.Is.of_val rfl) (fun _ _ _ h => h)
              clear hk
              go_simp
              exact hK
            refine Reg.EachV.guarded 13 26 true rfl (by kernel_rfl) (by kernel_rfl) rfl (fun T X hS hk K hK => ?_) ?_
            · skip
              have g4 : T[4]? = some (.string s) := hk.old 4 (by kernel_rfl) rfl
              have hK := hK _ X hS (Reg.Is.of_val rfl) (fun _ _ _ h => h)
              clear hk
              go_simp
              exact hK
            refine Reg.EachV.guarded 13 26 true rfl (by kernel_rfl) (by kernel_rfl) rfl (fun T X hS hk K hK => ?_) ?_
            · skip
              have g39 : T[39]? = some (.string s) := hk.val 26 39 (by kernel_rfl) (by kernel_rfl) rfl
              have hK := hK _ X hS (Reg.Is.of_val rfl) (fun _ _ _ h => h)
              clear hk
              go_simp
              exact hK
            refine Reg.EachV.guarded 13 26 true rfl (by kernel_rfl) (by kernel_rfl) rfl (fun T X hS hk K hK => ?_) ?_
            · skip
              have g38 : T[38]? = some (.int .i64 p) := hk.val 25 38 (by kernel_rfl) (by kernel_rfl) rfl
              have g40 : T[40]? = some (.int .i64 s.size) := hk.val 27 40 (by kernel_rfl) (by kernel_rfl) rfl
              have hK := hK _ X hS (Reg.Is.of_val rfl) (fun _ _ _ h => h)
              clear hk
              go_simp
              exact hK
            refine Reg.EachV.guarded 13 26 true rfl (by kernel_rfl) (by kernel_rfl) rfl (fun T X hS hk K hK => ?_) ?_
            · skip
              have g30 : T[30]? = some (.slice (some ⟨x, ox, none⟩) l.length cap) := hk.val 17 30 (by kernel_rfl) (by kernel_rfl) rfl
              have g34 : T[34]? = some (.int .i64 p) := hk.val 21 34 (by kernel_rfl) (by kernel_rfl) rfl
              have g41 : T[41]? = some (.int .i64 (pe : Nat)) := hk.val 28 41 (by kernel_rfl) (by kernel_rfl) rfl
              have hK := hK _ X hS (Reg.Is.of_val rfl) (fun _ _ _ h => h)
              clear hk
              go_simp
              exact hK
            refine Reg.EachV.guarded 13 26 true rfl (by kernel_rfl) (by kernel_rfl) rfl (fun T X hS hk K hK => ?_) ?_
            · skip
              have g42 : T[42]? = some (.slice (some ⟨x, ox + p, none⟩) s.size (cap - p)) := hk.val 29 42 (by kernel_rfl) (by kernel_rfl) rfl
              have e4 := hcv.out X hS
              have hK := hK _ X hS (Reg.Is.of_val rfl) (fun _ _ _ h => h)
              clear hk
              go_simp
              exact hK
            refine Reg.EachV.guarded 13 26 true rfl (by kernel_rfl) (by kernel_rfl) rfl (fun T X hS hk K hK => ?_) ?_
            · skip
              have g4 : T[4]? = some (.string s) := hk.old 4 (by kernel_rfl) rfl
              have hK := hK _ X hS (Reg.Is.of_val rfl) (fun _ _ _ h => h)
              clear hk
              go_simp
              exact hK
            refine Reg.EachV.guarded 13 26 true rfl (by kernel_rfl) (by kernel_rfl) rfl (fun T X hS hk K hK => ?_) ?_
            · skip
              have g43 : T[43]? = some (.string tu) := hk.val 30 43 (by kernel_rfl) (by kernel_rfl) rfl
              have g44 : T[44]? = some (.string s) := hk.val 31 44 (by kernel_rfl) (by kernel_rfl) rfl
              have hK := hK _ X hS (Reg.Is.of_val rfl) (fun _ _ _ h => h)
              clear hk
              go_simp
              exact hK
            refine Reg.EachV.plain rfl (fun T X hS hk K hK => ?_) ?_
            · skip
              have g26 : T[26]? = some (.bool true) := hk.val 13 26 (by kernel_rfl) (by kernel_rfl) rfl
              have g45 : T[45]? = some (.bool false) := hk.val 32 45 (by kernel_rfl) (by kernel_rfl) rfl
              have hK := hK _ X hS (Reg.Is.of_val rfl) (fun _ _ _ h => h)
              clear hk
              go_simp
              exact hK
            exact Reg.EachV.nil
          case rsZ =>
            intro u w1 hS hI
            have e0 : u 0 = .pointer (some ⟨rb, 0, none⟩) := (hI 0 (by decide)).val rfl
            have e1 : u 1 = .pointer (some ⟨rb, 0, none⟩) := (hI 1 (by decide)).val rfl
            have e2 : u 2 = .pointer (some ⟨rb, 0, none⟩) := (hI 2 (by decide)).val rfl
            have e3 : u 3 = .slice (some ⟨x, ox, none⟩) l.length cap := (hI 3 (by decide)).val rfl
            have e4 : u 4 = .int .i64 l.length := (hI 4 (by decide)).val rfl
            have e5 : u 5 = .pointer (some ⟨rb, 0, none⟩) := (hI 5 (by decide)).val rfl
            have e6 : u 6 = .pointer (some ⟨rb, 0, none⟩) := (hI 6 (by decide)).val rfl
            have e7 : u 7 = .pointer (some ⟨rb, 1, none⟩) := (hI 7 (by decide)).val rfl
            have e8 : u 8 = .int .i64 p := (hI 8 (by decide)).val rfl
            have e9 : u 9 = .int .i64 ((l.length : Int) - p) := (hI 9 (by decide)).val rfl
            have e10 : u 10 = .string s := (hI 10 (by decide)).val rfl
            have e11 : u 11 = .int .i64 s.size := (hI 11 (by decide)).val rfl
            have e12 : u 12 = .bool true := (hI 12 (by decide)).val rfl
            have e13 : u 13 = .bool true := (hI 13 (by decide)).val rfl
            have e14 : u 14 = .pointer (some ⟨rb, 0, none⟩) := (hI 14 (by decide)).val rfl
            have e15 : u 15 = .pointer (some ⟨rb, 0, none⟩) := (hI 15 (by decide)).val rfl
            have e16 : u 16 = .pointer (some ⟨rb, 0, none⟩) := (hI 16 (by decide)).val rfl
            have e17 : u 17 = .slice (some ⟨x, ox, none⟩) l.length cap := (hI 17 (by decide)).val rfl
            have e18 : u 18 = .pointer (some ⟨rb, 0, none⟩) := (hI 18 (by decide)).val rfl
            have e19 : u 19 = .pointer (some ⟨rb, 0, none⟩) := (hI 19 (by decide)).val rfl
            have e20 : u 20 = .pointer (some ⟨rb, 1, none⟩) := (hI 20 (by decide)).val rfl
            have e21 : u 21 = .int .i64 p := (hI 21 (by decide)).val rfl
            have e22 : u 22 = .pointer (some ⟨rb, 0, none⟩) := (hI 22 (by decide)).val rfl
            have e23 : u 23 = .pointer (some ⟨rb, 0, none⟩) := (hI 23 (by decide)).val rfl
            have e24 : u 24 = .pointer (some ⟨rb, 1, none⟩) := (hI 24 (by decide)).val rfl
            have e25 : u 25 = .int .i64 p := (hI 25 (by decide)).val rfl
            have e26 : u 26 = .string s := (hI 26 (by decide)).val rfl
            have e27 : u 27 = .int .i64 s.size := (hI 27 (by decide)).val rfl
            have e28 : u 28 = .int .i64 (pe : Nat) := (hI 28 (by decide)).val rfl
            have e29 : u 29 = .slice (some ⟨x, ox + p, none⟩) s.size (cap - p) := (hI 29 (by decide)).val rfl
            have e30 : u 30 = .string tu := (hI 30 (by decide)).val rfl
            have e31 : u 31 = .string s := (hI 31 (by decide)).val rfl
            have e32 : u 32 = .bool false := (hI 32 (by decide)).val rfl
            have e33 : u 33 = .bool false := (hI 33 (by decide)).val rfl
            clear hI
            simp only [Reg.putAll, Act.put, List.setIfInBounds_toArray, List.set_cons_succ, List.set_cons_zero, Nat.zero_add, Nat.reduceAdd, e0, e1, e2, e3, e4, e5, e6, e7, e8, e9, e10, e11, e12, e13, e14, e15, e16, e17, e18, e19, e20, e21, e22, e23, e24, e25, e26, e27, e28, e29, e30, e31, e32, e33]
            clear e0 e1 e2 e3 e4 e5 e6 e7 e8 e9 e10 e11 e12 e13 e14 e15 e16 e17 e18 e19 e20 e21 e22 e23 e24 e25 e26 e27 e28 e29 e30 e31 e32 e33
            have HZ := Lib.hid hS
            have hgb1 := (hS.block g (lt_of_heap HG.out)).trans HG.out
            have HGB := Lib.hid hgb1
            clear hS hgb1
            go_wp2
            go_roundw
            case rel => exact ⟨j + 1, by omega, HMI.out, by go_num, HR.out.next HZ.out, HC.out.step HZ.out (Nat.le_of_lt HR.out.lt), HGB.out⟩
            case measure => simp [intOf]; omega
      · rw [List.length_drop] at hfit
        obtain ⟨aa, cap, rfl⟩ := HR.out.shape
        have HMI := Lib.hid (HMIS.out fun hb => hfit (by have := (bg_le hb).1; rwa [List.length_drop] at this))
        have hwr : IntKind.i64.wrap ((l.length : Int) - (p : Int)) = (l.length : Int) - (p : Int) := by rw [IntKind.wrap_i64]; omega
        have hgei : ¬ (s.size : Int) ≤ (l.length : Int) - (p : Int) := by omega
        have hdec : decide ((s.size : Int) ≤ (l.length : Int) - (p : Int)) = false := by simpa using hgei
        clear HHIT HMIS
        go_wp2
        refine Reg.wp_region_vals (fun X => Below wr.heap.size wr X) (fun j => ([some (.pointer (some ⟨rb, 0, none⟩)), some (.pointer (some ⟨rb, 0, none⟩)), some (.pointer (some ⟨rb, 0, none⟩)), some (.slice aa l.length cap), some (.int .i64 l.length), some (.pointer (some ⟨rb, 0, none⟩)), some (.pointer (some ⟨rb, 0, none⟩)), some (.pointer (some ⟨rb, 1, none⟩)), some (.int .i64 p), some (.int .i64 ((l.length : Int) - p)), some (.string s), some (.int .i64 s.size), some (.bool false), some (.bool false), some undef, some undef, some undef, some undef, some undef, some undef, some undef, some undef, some undef, some undef, some undef, some undef, some undef, some undef, some undef, some undef, some undef, some undef, some undef, some (.bool false)] : List (Option Value)).getD j none) (fun _ _ _ => True) (by kernel_rfl) (by kernel_rfl) (by kernel_rfl) (by kernel_rfl) ?rs0 ?rsE ?rsZ
        case rs0 => exact (Below.refl _ _).drew
        case rsE =>
          refine Reg.EachV.plain rfl (fun T X hS hk K hK => ?_) ?_
          · skip
            have g0 : T[0]? = some (.pointer (some ⟨rb, 0, none⟩)) := hk.old 0 (by kernel_rfl) rfl
            have hK := hK _ X hS (Reg.Is.of_val rfl) (fun _ _ _ h => h)
            clear hk
            go_simp
            exact hK
          refine Reg.EachV.plain rfl (fun T X hS hk K hK => ?_) ?_
          · skip
            have g13 : T[13]? = some (.pointer (some ⟨rb, 0, none⟩)) := hk.val 0 13 (by kernel_rfl) (by kernel_rfl) rfl
            have hK := hK _ X hS (Reg.Is.of_val rfl) (fun _ _ _ h => h)
            clear hk
            go_simp
            exact hK
          refine Reg.EachV.plain rfl (fun T X hS hk K hK => ?_) ?_
          · skip
            have g14 : T[14]? = some (.pointer (some ⟨rb, 0, none⟩)) := hk.val 1 14 (by kernel_rfl) (by kernel_rfl) rfl
            have hK := hK _ X hS (Reg.Is.of_val rfl) (fun _ _ _ h => h)
            clear hk
            go_simp
            exact hK
          refine Reg.EachV.plain rfl (fun T X hS hk K hK => ?_) ?_
          · skip
            have g15 : T[15]? = some (.pointer (some ⟨rb, 0, none⟩)) := hk.val 2 15 (by kernel_rfl) (by kernel_rfl) rfl
            obtain ⟨e0, e1⟩ := HX.out X hS
            have hK := hK _ X hS (Reg.Is.of_val rfl) (fun _ _ _ h => h)
            clear hk
            go_simp
            exact hK
          refine Reg.EachV.plain rfl (fun T X hS hk K hK => ?_) ?_
          · skip
            have g16 : T[16]? = some (.slice aa l.length cap) := hk.val 3 16 (by kernel_rfl) (by kernel_rfl) rfl
            have hK := hK _ X hS (Reg.Is.of_val rfl) (fun _ _ _ h => h)
            clear hk
            go_simp
            exact hK
          refine Reg.EachV.plain rfl (fun T X hS hk K hK => ?_) ?_
          · skip
            have g0 : T[0]? = some (.pointer (some ⟨rb, 0, none⟩)) := hk.old 0 (by kernel_rfl) rfl
            have hK := hK _ X hS (Reg.Is.of_val rfl) (fun _ _ _ h => h)
            clear hk
            go_simp
            exact hK
          refine Reg.EachV.plain rfl (fun T X hS hk K hK => ?_) ?_
          · skip
            have g18 : T[18]? = some (.pointer (some ⟨rb, 0, none⟩)) := hk.val 5 18 (by kernel_rfl) (by kernel_rfl) rfl
            have hK := hK _ X hS (Reg.Is.of_val rfl) (fun _ _ _ h => h)
            clear hk
            go_simp
            exact hK
          refine Reg.EachV.plain rfl (fun T X hS hk K hK => ?_) ?_
          · skip
            have g19 : T[19]? = some (.pointer (some ⟨rb, 0, none⟩)) := hk.val 6 19 (by kernel_rfl) (by kernel_rfl) rfl
            have hK := hK _ X hS (Reg.Is.of_val rfl) (fun _ _ _ h => h)
            clear hk
            go_simp
            exact hK
          refine Reg.EachV.plain rfl (fun T X hS hk K hK => ?_) ?_
          · skip
            have g20 : T[20]? = some (.pointer (some ⟨rb, 1, none⟩)) := hk.val 7 20 (by kernel_rfl) (by kernel_rfl) rfl
            obtain ⟨e0, e1⟩ := HX.out X hS
            have hK := hK _ X hS (Reg.Is.of_val rfl) (fun _ _ _ h => h)
            clear hk
            go_simp
            exact hK
          refine Reg.EachV.plain rfl (fun T X hS hk K hK => ?_) ?_
          · skip
            have g17 : T[17]? = some (.int .i64 l.length) := hk.val 4 17 (by kernel_rfl) (by kernel_rfl) rfl
            have g21 : T[21]? = some (.int .i64 p) := hk.val 8 21 (by kernel_rfl) (by kernel_rfl) rfl
            have hK := hK _ X hS (Reg.Is.of_val rfl) (fun _ _ _ h => h)
            clear hk
            go_simp
            exact hK
          refine Reg.EachV.plain rfl (fun T X hS hk K hK => ?_) ?_
          · skip
            have g4 : T[4]? = some (.string s) := hk.old 4 (by kernel_rfl) rfl
            have hK := hK _ X hS (Reg.Is.of_val rfl) (fun _ _ _ h => h)
            clear hk
            go_simp
            exact hK
          refine Reg.EachV.plain rfl (fun T X hS hk K hK => ?_) ?_
          · skip
            have g23 : T[23]? = some (.string s) := hk.val 10 23 (by kernel_rfl) (by kernel_rfl) rfl
            have hK := hK _ X hS (Reg.Is.of_val rfl) (fun _ _ _ h => h)
            clear hk
            go_simp
            exact hK
          refine Reg.EachV.plain rfl (fun T X hS hk K hK => ?_) ?_
          · skip
            have g22 : T[22]? = some (.int .i64 ((l.length : Int) - p)) := hk.val 9 22 (by kernel_rfl) (by kernel_rfl) rfl
            have g24 : T[24]? = some (.int .i64 s.size) := hk.val 11 24 (by kernel_rfl) (by kernel_rfl) rfl
            have hK := hK _ X hS (Reg.Is.of_val rfl) (fun _ _ _ h => h)
            clear hk
            go_simp
            exact hK
          refine Reg.EachV.plain rfl (fun T X hS hk K hK => ?_) ?_
          · skip
            have g25 : T[25]? = some (.bool false) := hk.val 12 25 (by kernel_rfl) (by kernel_rfl) rfl
            have hK := hK _ X hS (Reg.Is.of_val rfl) (fun _ _ _ h => h)
            clear hk
            go_simp
            exact hK
          refine Reg.EachV.passed 13 26 false rfl (by kernel_rfl) (by kernel_rfl) rfl rfl ?_
          refine Reg.EachV.passed 13 26 false rfl (by kernel_rfl) (by kernel_rfl) rfl rfl ?_
          refine Reg.EachV.passed 13 26 false rfl (by kernel_rfl) (by kernel_rfl) rfl rfl ?_
          refine Reg.EachV.passed 13 26 false rfl (by kernel_rfl) (by kernel_rfl) rfl rfl ?_
          refine Reg.EachV.passed 13 26 false rfl (by kernel_rfl) (by kernel_rfl) rfl rfl ?_
          refine Reg.EachV.passed 13 26 false rfl (by kernel_rfl) (by kernel_rfl) rfl rfl ?_
          refine Reg.EachV.passed 13 26 false rfl (by kernel_rfl) (by kernel_rfl) rfl rfl ?_
          refine Reg.EachV.passed 13 26 false rfl (by kernel_rfl) (by kernel_rfl) rfl rfl ?_
          refine Reg.EachV.passed 13 26 false rfl (by kernel_rfl) (by kernel_rfl) rfl rfl ?_
          refine Reg.EachV.passed 13 26 false rfl (by kernel_rfl) (by kernel_rfl) rfl rfl ?_
          refine Reg.EachV.passed 13 26 false rfl (by kernel_rfl) (by kernel_rfl) rfl rfl ?_
          refine Reg.EachV.passed 13 26 false rfl (by kernel_rfl) (by kernel_rfl) rfl rfl ?_
          refine Reg.EachV.passed 13 26 false rfl (by kernel_rfl) (by kernel_rfl) rfl rfl ?_
          refine Reg.EachV.passed 13 26 false rfl (by kernel_rfl) (by kernel_rfl) rfl rfl ?_
          refine Reg.EachV.passed 13 26 false rfl (by kernel_rfl) (by kernel_rfl) rfl rfl ?_
          refine Reg.EachV.passed 13 26 false rfl (by kernel_rfl) (by kernel_rfl) rfl rfl ?_
          refine Reg.EachV.passed 13 26 false rfl (by kernel_rfl) (by kernel_rfl) rfl rfl ?_
          refine Reg.EachV.passed 13 26 false rfl (by kernel_rfl) (by kernel_rfl) rfl rfl ?_
          refine Reg.EachV.passed 13 26 false rfl (by kernel_rfl) (by kernel_rfl) rfl rfl ?_
          refine Reg.EachV.plain rfl (fun T X hS hk K hK => ?_) ?_
          · skip
            have g26 : T[26]? = some (.bool false) := hk.val 13 26 (by kernel_rfl) (by kernel_rfl) rfl
            have g45 : T[45]? = some (undef) := hk.val 32 45 (by kernel_rfl) (by kernel_rfl) rfl
            have hK := hK _ X hS (Reg.Is.of_val rfl) (fun _ _ _ h => h)
            clear hk
            go_simp
            exact hK
          exact Reg.EachV.nil
        case rsZ =>
          intro u w1 hS hI
          have e0 : u 0 = .pointer (some ⟨rb, 0, none⟩) := (hI 0 (by decide)).val rfl
          have e1 : u 1 = .pointer (some ⟨rb, 0, none⟩) := (hI 1 (by decide)).val rfl
          have e2 : u 2 = .pointer (some ⟨rb, 0, none⟩) := (hI 2 (by decide)).val rfl
          have e3 : u 3 = .slice aa l.length cap := (hI 3 (by decide)).val rfl
          have e4 : u 4 = .int .i64 l.length := (hI 4 (by decide)).val rfl
          have e5 : u 5 = .pointer (some ⟨rb, 0, none⟩) := (hI 5 (by decide)).val rfl
          have e6 : u 6 = .pointer (some ⟨rb, 0, none⟩) := (hI 6 (by decide)).val rfl
          have e7 : u 7 = .pointer (some ⟨rb, 1, none⟩) := (hI 7 (by decide)).val rfl
          have e8 : u 8 = .int .i64 p := (hI 8 (by decide)).val rfl
          have e9 : u 9 = .int .i64 ((l.length : Int) - p) := (hI 9 (by decide)).val rfl
          have e10 : u 10 = .string s := (hI 10 (by decide)).val rfl
          have e11 : u 11 = .int .i64 s.size := (hI 11 (by decide)).val rfl
          have e12 : u 12 = .bool false := (hI 12 (by decide)).val rfl
          have e13 : u 13 = .bool false := (hI 13 (by decide)).val rfl
          have e14 : u 14 = undef := (hI 14 (by decide)).val rfl
          have e15 : u 15 = undef := (hI 15 (by decide)).val rfl
          have e16 : u 16 = undef := (hI 16 (by decide)).val rfl
          have e17 : u 17 = undef := (hI 17 (by decide)).val rfl
          have e18 : u 18 = undef := (hI 18 (by decide)).val rfl
          have e19 : u 19 = undef := (hI 19 (by decide)).val rfl
          have e20 : u 20 = undef := (hI 20 (by decide)).val rfl
          have e21 : u 21 = undef := (hI 21 (by decide)).val rfl
          have e22 : u 22 = undef := (hI 22 (by decide)).val rfl
          have e23 : u 23 = undef := (hI 23 (by decide)).val rfl
          have e24 : u 24 = undef := (hI 24 (by decide)).val rfl
          have e25 : u 25 = undef := (hI 25 (by decide)).val rfl
          have e26 : u 26 = undef := (hI 26 (by decide)).val rfl
          have e27 : u 27 = undef := (hI 27 (by decide)).val rfl
          have e28 : u 28 = undef := (hI 28 (by decide)).val rfl
          have e29 : u 29 = undef := (hI 29 (by decide)).val rfl
          have e30 : u 30 = undef := (hI 30 (by decide)).val rfl
          have e31 : u 31 = undef := (hI 31 (by decide)).val rfl
          have e32 : u 32 = undef := (hI 32 (by decide)).val rfl
          have e33 : u 33 = .bool false := (hI 33 (by decide)).val rfl
          clear hI
          simp only [Reg.putAll, Act.put, List.setIfInBounds_toArray, List.set_cons_succ, List.set_cons_zero, Nat.zero_add, Nat.reduceAdd, e0, e1, e2, e3, e4, e5, e6, e7, e8, e9, e10, e11, e12, e13, e14, e15, e16, e17, e18, e19, e20, e21, e22, e23, e24, e25, e26, e27, e28, e29, e30, e31, e32, e33]
          clear e0 e1 e2 e3 e4 e5 e6 e7 e8 e9 e10 e11 e12 e13 e14 e15 e16 e17 e18 e19 e20 e21 e22 e23 e24 e25 e26 e27 e28 e29 e30 e31 e32 e33
          have HZ := Lib.hid hS
          have hgb1 := (hS.block g (lt_of_heap HG.out)).trans HG.out
          have HGB := Lib.hid hgb1
          clear hS hgb1
          go_wp2
          go_roundw
          case rel => exact ⟨j + 1, by omega, HMI.out, by go_num, HR.out.next HZ.out, HC.out.step HZ.out (Nat.le_of_lt HR.out.lt), HGB.out⟩
          case measure => simp [intOf]; omega
    · obtain rfl : j = 35 := by omega
      have hsg : sg = sEmpty := HD.out
      subst hsg
      go_wp2
      go_ret
      exact ⟨rfl, HR.out, HC.out⟩
end Go.Proofs.YtacfglopionkfaaGreatDoor
