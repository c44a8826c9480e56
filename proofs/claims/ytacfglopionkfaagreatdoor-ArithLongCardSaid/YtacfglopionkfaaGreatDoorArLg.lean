/- ArithLong: rows of one sign, as long as may be and longer (gen_arlg.py). -/
import Derived.Test.YtacfglopionkfaaGreatDoorRaJ
import Derived.Test.YtacfglopionkfaaGreatDoorArUse
import Derived.Test.YtacfglopionkfaaGreatDoorArAwake
import Derived.Test.YtacfglopionkfaaGreatDoorArSl
import Derived.Test.YtacfglopionkfaaGreatDoorArBld
import Derived.Test.YtacfglopionkfaaGreatDoorFaSnt
import Derived.Test.YtacfglopionkfaaGreatDoorRows
namespace Go.Proofs.YtacfglopionkfaaGreatDoor
open Go.RowKit

set_option maxRecDepth 100000 in
theorem eq_faultR (a b c : Int) (w : World) :
    (Op.equalIn 10000 32 (.agg #[.int .i64 a, .int .i64 b, .int .i64 c]) (.agg #[.int .i64 a, .int .i64 b, .int .i64 c])).run Tryz.prog w = .ok true w := by
  have hf : (Tryz.prog.fieldsOf 32).toList.map (fun f => (f.name, f.type, f.offset)) = [("Code", 3, 0), ("Pos", 3, 1), ("Lang", 3, 2)] := by kernel_rfl
  have hu : Tryz.prog.underlying 32 = some (.struct (Tryz.prog.fieldsOf 32)) := by kernel_rfl
  have hs : Tryz.prog.stoodInHeld 32 = false := by kernel_rfl
  obtain ⟨f0, r0, e0, hf0, hr0⟩ := List.map_eq_cons_iff.1 hf
  obtain ⟨f1, r1, e1, hf1, hr1⟩ := List.map_eq_cons_iff.1 hr0
  obtain ⟨f2, r2, e2, hf2, hr2⟩ := List.map_eq_cons_iff.1 hr1
  have er : r2 = [] := List.map_eq_nil_iff.1 hr2
  subst er
  subst e2
  subst e1
  simp only [Prod.mk.injEq] at hf0 hf1 hf2
  have hp0 : ∀ (a b c : Value) (w : World), (part 3 #[a, b, c] 0).run Tryz.prog w = .ok a w := fun a b c w => by kernel_rfl
  have hp1 : ∀ (a b c : Value) (w : World), (part 3 #[a, b, c] 1).run Tryz.prog w = .ok b w := fun a b c w => by kernel_rfl
  have hp2 : ∀ (a b c : Value) (w : World), (part 3 #[a, b, c] 2).run Tryz.prog w = .ok c w := fun a b c w => by kernel_rfl
  have hi : ∀ (d : Nat) (a b : Int) (w : World), (Op.equalIn (d + 1) 3 (.int .i64 a) (.int .i64 b)).run Tryz.prog w = .ok (a == b) w := fun d a b w => run_equalIn_int w d _ .i64 .i64 a b Tryz.underlying3
  rw [show (10000 : Nat) = 9999 + 1 from rfl, run_equalIn_agg w 9999 _ _ _ hu hs, e0]
  simp only [Op.eqFields, hf0.1, hf0.2.1, hf0.2.2, hf1.1, hf1.2.1, hf1.2.2, hf2.1, hf2.2.1, hf2.2.2]
  have hi9 := fun (a b : Int) (w : World) => hi 9998 a b w
  simp [Sem.run_bind, Sem.run_ite, hp0, hp1, hp2, hi9]
theorem rep_byt {c : Int} (h0 : 0 ≤ c) (h1 : c ≤ 255) (m : Nat) : Byt (List.replicate m c) := fun i => by
  rw [List.getD_eq_getElem?_getD, List.getElem?_replicate]
  split
  · exact ⟨h0, h1⟩
  · simp
theorem rep_map (c : Int) (m : Nat) : List.replicate m (Value.int .u8 c) ++ [Value.int .u8 c] = (List.replicate (m + 1) c).map (Value.int .u8) := by
  rw [List.map_replicate, List.replicate_succ']
theorem byte_wfR {x : Int} (h : (Lit.int .u8 x).wf = true) : 0 ≤ x ∧ x ≤ 255 := by
  simpa [Lit.wf, IntKind.min, IntKind.max, IntKind.signed, IntKind.bits] using h

set_option maxRecDepth 100000 in
set_option maxHeartbeats 8000000 in
theorem long_ok (n c : Int) (hc0 : 0 ≤ c) (hc1 : c ≤ 255) (s : Nat → Addr) (w : World) (he : Snt w s) (hT : TP w) (m : Nat) (hm : (m : Int) = (n.tmod 2100 + 2100) % 2100) {t : Tr} {k : Tk} (hp : parseP (List.replicate m c) (5 * (List.replicate m c).length + 4) = some (.ok t k)) :
    Calls Tryz.prog 3 #[.int .i64 n, .int .u8 c] w fun e w' => e = .returned (.bool true) ∧ Below w.heap.size w w' := by
  have hm2 : m < 2100 := by omega
  have hbnd : 5 * (List.replicate m c).length + 4 ≤ 100000 := by rw [List.length_replicate]; omega
  have hlen : (List.replicate m c).length = m := List.length_replicate
  have HAW : Hid (∀ X, Below w.heap.size w X → Calls Tryz.prog 12 #[] X fun e w' => e = .returned (.bool true) ∧ Below X.heap.size X w') := Lib.hid fun X hX => arAwake_any s X (he.er.below hX) (hT.below hX)
  have HP : Hid (∀ X v, Below w.heap.size w X → Sl X v (List.replicate m c) → Calls Tryz.prog 9 #[v] X fun x w' => (∃ E, x = .returned (.tuple #[.pointer (some ⟨E, 0, none⟩), .nilIface])) ∧ Below X.heap.size X w') := Lib.hid fun X v hX hS => (parse_ok v _ _ t k s X hp hS (he.below hX)).mono fun x w' ⟨⟨E, e1, _⟩, e2⟩ => ⟨⟨E, e1⟩, e2⟩
  have HR : Hid (∀ X v, Below w.heap.size w X → Sl X v (List.replicate m c) → Calls Tryz.prog 10 #[v] X fun x w' => (∃ (oa : Option Addr) (na : Nat), x = .returned (.tuple #[.agg #[.string t.op, .int .i64 t.val, .string t.nm, .int .i64 t.pos, .int .i64 t.apos, .slice oa na na], .agg #[.int .i64 0, .int .i64 0, .int .i64 0]])) ∧ Below X.heap.size X w') := Lib.hid fun X v _ hS => (ra_parse v _ _ _ X hbnd hp hS).mono fun x w' ⟨⟨oa, na, e1, _⟩, e2⟩ => ⟨⟨oa, na, e1⟩, e2⟩
  have hbyt := rep_byt hc0 hc1 m
  have hn1 : -2099 ≤ n.tmod 2100 := by have := Int.tmod_lt_of_pos (-n) (show (0 : Int) < 2100 by omega); rw [Int.neg_tmod] at this; omega
  have hn2 : n.tmod 2100 ≤ 2099 := by have := Int.tmod_lt_of_pos n (show (0 : Int) < 2100 by omega); omega
  obtain ⟨i0, hi, hz0, hz1, hz2⟩ := info_parts bd_byte
  have HBY := Lib.hid hbyt
  have HMM := Lib.hid hm
  clear he hT hbyt hbnd hlen hm hc0 hc1 hp
  go_enter Tryz.func3, Tryz.ntmps3
  go_upto_region 4 with fail
  rw [← HMM.out]
  clear hn1 hn2
  have H0 : Hid (w.ownsRow w.heap.size 5 1 (.slice none 0 0) 0 ((List.replicate 0 c).map (Value.int .u8))) := Lib.hid ⟨rfl, Or.inl ⟨rfl, rfl⟩⟩
  go_loopw [5, 15] (fun v i wr => ∃ pj : Nat, pj ≤ m ∧ i = .int .i64 pj ∧ wr.ownsRow w.heap.size 5 1 v pj ((List.replicate pj c).map (Value.int .u8)) ∧ Below w.heap.size w wr) (fun _ i _ => m - (intOf i).toNat)
  case atStart => exact ⟨0, Nat.zero_le _, rfl, H0.out, Below.refl _ _⟩
  case round =>
    clear H0
    obtain ⟨pj, hpj, rfl, hown, hbl⟩ := hrel
    have HO := Lib.hid hown
    have HB := Lib.hid hbl
    clear hown hbl
    by_cases hlt : pj < m
    · have hlti : (pj : Int) < m := by omega
      have HBa := Lib.hid (HB.out.alloc HB.out.size (.cells #[.int .u8 c] 5))
      have HOa := Lib.hid (HO.out.alloc (.cells #[.int .u8 c] 5))
      go_wp2_with (first | (at_builtin; refine wpList_append_own _ rfl (.tmp 17) (.tmp 19) 22 rfl w.heap.size 5 i0 (.int .u8 0) 1 1 Tryz.underlying22 hi hz0 hz1 hz2 rfl (by decide) _ pj ((List.replicate pj c).map (Value.int .u8)) rfl HOa.out ⟨wr.heap.size, 0, none⟩ 1 1 [.int .u8 c] rfl rfl ?c1 ?c2 ?c3 ?c4 HBa.out.size ?_) | fail)
      case c1 =>
        intro j u hj
        cases j with
        | zero => simp at hj; subst hj; simp [Addr.add]
        | succ j => simp at hj
      case c2 => simp [Value.oneCell']
      case c3 => unfold maxLen; omega
      case c4 => omega
      intro v1 w3 hown3 hgrow _
      rw [rep_map] at hown3
      have HO3 := Lib.hid hown3
      have HB3 := Lib.hid (HBa.out.grown hgrow HBa.out.size (fun j hj => (HOa.out.lt j hj).1))
      clear hown3 hgrow
      go_wp2_with fail
      go_roundw
      case rel => exact ⟨pj + 1, by omega, by go_num, HO3.out, HB3.out⟩
      case measure => simp [intOf]; omega
    · obtain rfl : pj = m := by omega
      have hnl : ¬ (pj : Int) < pj := by omega
      have hsl := slOwned HO.out HBY.out (by rw [List.length_replicate]; omega)
      have HPA := Lib.hid (HP.out wr _ HB.out hsl)
      have HSL := Lib.hid hsl
      clear hsl HP
      go_wp2_with fail
      refine HPA.out.mono ?_
      rintro x w4 ⟨⟨E, rfl⟩, hb4⟩
      have HB4 := Lib.hid (HB.out.trans (hb4.mono HB.out.size))
      have HRA := Lib.hid (HR.out w4 _ HB4.out (HSL.out.below hb4))

      clear hb4 HPA
      go_wp2_with fail
      refine HRA.out.mono ?_
      rintro x w5 ⟨⟨oa, na, rfl⟩, hb5⟩
      have HB5 := Lib.hid (HB4.out.trans (hb5.mono HB4.out.size))
      have HB45 := Lib.hid hb5
      clear hb5 HRA
      go_wp2_with fail
      obtain ⟨w6, hW6⟩ : ∃ w6, w6 = (w5.alloc (.cells #[.string t.op, .int .i64 t.val, .string t.nm, .int .i64 t.pos, .int .i64 t.apos, .slice oa na na] 30)).alloc (.cells #[.int .i64 0, .int .i64 0, .int .i64 0] 32) := ⟨_, rfl⟩
      have HB6 : Hid (Below w.heap.size w w6) := Lib.hid (by rw [hW6]; exact (HB5.out.alloc HB5.out.size _).alloc (by simp; have := HB5.out.size; omega) _)
      have HB56 : Hid (Below w4.heap.size w4 w6) := Lib.hid (by rw [hW6]; exact (HB45.out.alloc HB45.out.size _).alloc (by simp; have := HB45.out.size; omega) _)
      have HF6 : Hid (w6.heap[w5.heap.size + 1]? = some (.cells #[.int .i64 0, .int .i64 0, .int .i64 0] 32 (0, 0))) := Lib.hid (by rw [hW6]; have := heap_alloc_last (w5.alloc (.cells #[.string t.op, .int .i64 t.val, .string t.nm, .int .i64 t.pos, .int .i64 t.apos, .slice oa na na] 30)) (.cells #[.int .i64 0, .int .i64 0, .int .i64 0] 32); simpa using this)
      rw [← hW6]
      clear hW6
      have HTL : Hid (∀ X, Below w6.heap.size w6 X → Calls Tryz.prog 11 #[.nilIface] X fun x w' => x = .returned (.agg #[.int .i64 0, .int .i64 0, .int .i64 0]) ∧ Below X.heap.size X w') := Lib.hid fun X hX => tell_nil X
      have HFX : Hid (∀ X, Below w6.heap.size w6 X → X.cell? ⟨w5.heap.size + 1, 0, none⟩ = some (.int .i64 0) ∧ X.cell? ⟨w5.heap.size + 1, 1, none⟩ = some (.int .i64 0) ∧ X.cell? ⟨w5.heap.size + 1, 2, none⟩ = some (.int .i64 0)) := Lib.hid fun X hX => (three_facts ((hX.block _ (lt_of_heap HF6.out)).trans HF6.out)).1
      have EF := Lib.hid (eq_faultR 0 0 0)
      generalize w5.heap.size + 1 = fb at *
      refine Reg.wp_region_vals (fun X => Below w6.heap.size w6 X) (fun j => ([some (.nilIface), some (.agg #[.int .i64 0, .int .i64 0, .int .i64 0]), some (.agg #[.int .i64 0, .int .i64 0, .int .i64 0]), some (.bool true), some (.bool true), some (.bool true), some (.bool true), some (.bool true)] : List (Option Value)).getD j none) (fun _ _ _ => True) (by kernel_rfl) (by kernel_rfl) (by kernel_rfl) (by kernel_rfl) ?rs0 ?rsE ?rsZ
      case rs0 => exact (Below.refl _ _).drew
      case rsE =>
        refine Reg.EachV.plain rfl (fun T X hS hk K hK => ?_) ?_
        · skip
          have g7 : T[7]? = some (.nilIface) := hk.old 7 (by kernel_rfl) rfl
          have hK := hK _ X hS (Reg.Is.of_val rfl) (fun _ _ _ h => h)
          clear hk
          go_simp
          exact hK
        refine Reg.EachV.plain rfl (fun T X hS hk K hK => ?_) ?_
        · skip
          have g32 : T[32]? = some (.nilIface) := hk.val 0 32 (by kernel_rfl) (by kernel_rfl) rfl
          clear hk
          go_simp
          refine (HTL.out X hS).mono ?_
          rintro e w1 ⟨rfl, hb⟩
          exact hK _ _ (hS.trans (hb.mono hS.size)) (Reg.Is.of_val rfl) (fun _ _ _ h => h)
        refine Reg.EachV.plain rfl (fun T X hS hk K hK => ?_) ?_
        · skip
          have g9 : T[9]? = some (.pointer (some ⟨fb, 0, none⟩)) := hk.old 9 (by kernel_rfl) rfl
          obtain ⟨c0, c1, c2⟩ := HFX.out X hS
          have hK := hK _ X hS (Reg.Is.of_val rfl) (fun _ _ _ h => h)
          clear hk
          go_simp
          exact hK
        refine Reg.EachV.plain rfl (fun T X hS hk K hK => ?_) ?_
        · skip
          have g33 : T[33]? = some (.agg #[.int .i64 0, .int .i64 0, .int .i64 0]) := hk.val 1 33 (by kernel_rfl) (by kernel_rfl) rfl
          have g34 : T[34]? = some (.agg #[.int .i64 0, .int .i64 0, .int .i64 0]) := hk.val 2 34 (by kernel_rfl) (by kernel_rfl) rfl
          have q2 := EF.out
          have hK := hK _ X hS (Reg.Is.of_val rfl) (fun _ _ _ h => h)
          clear hk
          go_simp
          exact hK
        refine Reg.EachV.plain rfl (fun T X hS hk K hK => ?_) ?_
        · skip
          have g35 : T[35]? = some (.bool true) := hk.val 3 35 (by kernel_rfl) (by kernel_rfl) rfl
          have hK := hK _ X hS (Reg.Is.of_val rfl) (fun _ _ _ h => h)
          clear hk
          go_simp
          exact hK
        refine Reg.EachV.guarded 4 36 true rfl (by kernel_rfl) (by kernel_rfl) rfl (fun T X hS hk K hK => ?_) ?_
        · skip
          clear hk
          go_simp
          refine (HAW.out X (HB6.out.trans (hS.mono HB6.out.size))).mono ?_
          rintro e w1 ⟨rfl, hb⟩
          exact hK _ _ (hS.trans (hb.mono hS.size)) (Reg.Is.of_val rfl) (fun _ _ _ h => h)
        refine Reg.EachV.plain rfl (fun T X hS hk K hK => ?_) ?_
        · skip
          have g36 : T[36]? = some (.bool true) := hk.val 4 36 (by kernel_rfl) (by kernel_rfl) rfl
          have g37 : T[37]? = some (.bool true) := hk.val 5 37 (by kernel_rfl) (by kernel_rfl) rfl
          have hK := hK _ X hS (Reg.Is.of_val rfl) (fun _ _ _ h => h)
          clear hk
          go_simp
          exact hK
        refine Reg.EachV.plain rfl (fun T X hS hk K hK => ?_) ?_
        · skip
          have g38 : T[38]? = some (.bool true) := hk.val 6 38 (by kernel_rfl) (by kernel_rfl) rfl
          have hK := hK _ X hS (Reg.Is.of_val rfl) (fun _ _ _ h => h)
          clear hk
          go_simp
          exact hK
        exact Reg.EachV.nil
      case rsZ =>
        intro u w1 hS hI
        have e0 : u 0 = .nilIface := (hI 0 (by decide)).val rfl
        have e1 : u 1 = .agg #[.int .i64 0, .int .i64 0, .int .i64 0] := (hI 1 (by decide)).val rfl
        have e2 : u 2 = .agg #[.int .i64 0, .int .i64 0, .int .i64 0] := (hI 2 (by decide)).val rfl
        have e3 : u 3 = .bool true := (hI 3 (by decide)).val rfl
        have e4 : u 4 = .bool true := (hI 4 (by decide)).val rfl
        have e5 : u 5 = .bool true := (hI 5 (by decide)).val rfl
        have e6 : u 6 = .bool true := (hI 6 (by decide)).val rfl
        have e7 : u 7 = .bool true := (hI 7 (by decide)).val rfl
        clear hI
        simp only [Reg.putAll, Act.put, List.setIfInBounds_toArray, List.set_cons_succ, List.set_cons_zero, Nat.zero_add, Nat.reduceAdd, e0, e1, e2, e3, e4, e5, e6, e7]
        clear e0 e1 e2 e3 e4 e5 e6 e7
        have HZ := Lib.hid (HB6.out.trans (hS.mono HB6.out.size))
        clear hS
        go_wp2
        go_ret
        exact ⟨rfl, HZ.out⟩
set_option maxRecDepth 100000 in
set_option maxHeartbeats 8000000 in
theorem long_bad (n c : Int) (hc0 : 0 ≤ c) (hc1 : c ≤ 255) (s : Nat → Addr) (w : World) (he : Snt w s) (hT : TP w) (m : Nat) (hm : (m : Int) = (n.tmod 2100 + 2100) % 2100) {cd q : Nat} (hp : parseP (List.replicate m c) (5 * (List.replicate m c).length + 4) = some (.bad cd q)) :
    Calls Tryz.prog 3 #[.int .i64 n, .int .u8 c] w fun e w' => e = .returned (.bool true) ∧ Below w.heap.size w w' := by
  have hm2 : m < 2100 := by omega
  have hbnd : 5 * (List.replicate m c).length + 4 ≤ 100000 := by rw [List.length_replicate]; omega
  have hlen : (List.replicate m c).length = m := List.length_replicate
  have HAW : Hid (∀ X, Below w.heap.size w X → Calls Tryz.prog 12 #[] X fun e w' => e = .returned (.bool true) ∧ Below X.heap.size X w') := Lib.hid fun X hX => arAwake_any s X (he.er.below hX) (hT.below hX)
  have hcd := parseP_code hp
  have HP : Hid (∀ X v, Below w.heap.size w X → Sl X v (List.replicate m c) → Calls Tryz.prog 9 #[v] X fun x w' => (∃ pv, x = .returned (.tuple #[.pointer none, .iface 89 pv]) ∧ ErrAt w' s cd q (.iface 89 pv)) ∧ Below X.heap.size X w') := Lib.hid fun X v hX hS => parse_bad v _ _ cd q s X hp hS (he.below hX)
  have HR : Hid (∀ X v, Below w.heap.size w X → Sl X v (List.replicate m c) → Calls Tryz.prog 10 #[v] X fun x w' => x = .returned (.tuple #[.agg zA, .agg #[.int .i64 cd, .int .i64 q, .int .i64 1]]) ∧ Below X.heap.size X w') := Lib.hid fun X v _ hS => (ra_parse v _ _ _ X hbnd hp hS).mono fun x w' ⟨⟨_, e1⟩, e2⟩ => ⟨e1, e2⟩
  unfold zA at HR
  have HSE := Lib.hid he
  have HCD : Hid (1 ≤ cd ∧ cd ≤ 21) := Lib.hid (by omega)
  have hbyt := rep_byt hc0 hc1 m
  have hn1 : -2099 ≤ n.tmod 2100 := by have := Int.tmod_lt_of_pos (-n) (show (0 : Int) < 2100 by omega); rw [Int.neg_tmod] at this; omega
  have hn2 : n.tmod 2100 ≤ 2099 := by have := Int.tmod_lt_of_pos n (show (0 : Int) < 2100 by omega); omega
  obtain ⟨i0, hi, hz0, hz1, hz2⟩ := info_parts bd_byte
  have HBY := Lib.hid hbyt
  have HMM := Lib.hid hm
  clear he hT hbyt hbnd hlen hm hc0 hc1 hp hcd
  go_enter Tryz.func3, Tryz.ntmps3
  go_upto_region 4 with fail
  rw [← HMM.out]
  clear hn1 hn2
  have H0 : Hid (w.ownsRow w.heap.size 5 1 (.slice none 0 0) 0 ((List.replicate 0 c).map (Value.int .u8))) := Lib.hid ⟨rfl, Or.inl ⟨rfl, rfl⟩⟩
  go_loopw [5, 15] (fun v i wr => ∃ pj : Nat, pj ≤ m ∧ i = .int .i64 pj ∧ wr.ownsRow w.heap.size 5 1 v pj ((List.replicate pj c).map (Value.int .u8)) ∧ Below w.heap.size w wr) (fun _ i _ => m - (intOf i).toNat)
  case atStart => exact ⟨0, Nat.zero_le _, rfl, H0.out, Below.refl _ _⟩
  case round =>
    clear H0
    obtain ⟨pj, hpj, rfl, hown, hbl⟩ := hrel
    have HO := Lib.hid hown
    have HB := Lib.hid hbl
    clear hown hbl
    by_cases hlt : pj < m
    · have hlti : (pj : Int) < m := by omega
      have HBa := Lib.hid (HB.out.alloc HB.out.size (.cells #[.int .u8 c] 5))
      have HOa := Lib.hid (HO.out.alloc (.cells #[.int .u8 c] 5))
      go_wp2_with (first | (at_builtin; refine wpList_append_own _ rfl (.tmp 17) (.tmp 19) 22 rfl w.heap.size 5 i0 (.int .u8 0) 1 1 Tryz.underlying22 hi hz0 hz1 hz2 rfl (by decide) _ pj ((List.replicate pj c).map (Value.int .u8)) rfl HOa.out ⟨wr.heap.size, 0, none⟩ 1 1 [.int .u8 c] rfl rfl ?c1 ?c2 ?c3 ?c4 HBa.out.size ?_) | fail)
      case c1 =>
        intro j u hj
        cases j with
        | zero => simp at hj; subst hj; simp [Addr.add]
        | succ j => simp at hj
      case c2 => simp [Value.oneCell']
      case c3 => unfold maxLen; omega
      case c4 => omega
      intro v1 w3 hown3 hgrow _
      rw [rep_map] at hown3
      have HO3 := Lib.hid hown3
      have HB3 := Lib.hid (HBa.out.grown hgrow HBa.out.size (fun j hj => (HOa.out.lt j hj).1))
      clear hown3 hgrow
      go_wp2_with fail
      go_roundw
      case rel => exact ⟨pj + 1, by omega, by go_num, HO3.out, HB3.out⟩
      case measure => simp [intOf]; omega
    · obtain rfl : pj = m := by omega
      have hnl : ¬ (pj : Int) < pj := by omega
      have hsl := slOwned HO.out HBY.out (by rw [List.length_replicate]; omega)
      have HPA := Lib.hid (HP.out wr _ HB.out hsl)
      have HSL := Lib.hid hsl
      clear hsl HP
      go_wp2_with fail
      refine HPA.out.mono ?_
      rintro x w4 ⟨⟨pv, rfl, hea⟩, hb4⟩
      have HB4 := Lib.hid (HB.out.trans (hb4.mono HB.out.size))
      have HRA := Lib.hid (HR.out w4 _ HB4.out (HSL.out.below hb4))
      have HEA := Lib.hid hea
      clear hea
      clear hb4 HPA
      go_wp2_with fail
      refine HRA.out.mono ?_
      rintro x w5 ⟨rfl, hb5⟩
      have HB5 := Lib.hid (HB4.out.trans (hb5.mono HB4.out.size))
      have HB45 := Lib.hid hb5
      clear hb5 HRA
      go_wp2_with fail
      obtain ⟨w6, hW6⟩ : ∃ w6, w6 = (w5.alloc (.cells #[.string ⟨#[]⟩, .int .i64 0, .string ⟨#[]⟩, .int .i64 0, .int .i64 0, .slice none 0 0] 30)).alloc (.cells #[.int .i64 (cd : Nat), .int .i64 (q : Nat), .int .i64 1] 32) := ⟨_, rfl⟩
      have HB6 : Hid (Below w.heap.size w w6) := Lib.hid (by rw [hW6]; exact (HB5.out.alloc HB5.out.size _).alloc (by simp; have := HB5.out.size; omega) _)
      have HB56 : Hid (Below w4.heap.size w4 w6) := Lib.hid (by rw [hW6]; exact (HB45.out.alloc HB45.out.size _).alloc (by simp; have := HB45.out.size; omega) _)
      have HF6 : Hid (w6.heap[w5.heap.size + 1]? = some (.cells #[.int .i64 (cd : Nat), .int .i64 (q : Nat), .int .i64 1] 32 (0, 0))) := Lib.hid (by rw [hW6]; have := heap_alloc_last (w5.alloc (.cells #[.string ⟨#[]⟩, .int .i64 0, .string ⟨#[]⟩, .int .i64 0, .int .i64 0, .slice none 0 0] 30)) (.cells #[.int .i64 (cd : Nat), .int .i64 (q : Nat), .int .i64 1] 32); simpa using this)
      rw [← hW6]
      clear hW6
      have HTL : Hid (∀ X, Below w6.heap.size w6 X → Calls Tryz.prog 11 #[.iface 89 pv] X fun x w' => x = .returned (.agg #[.int .i64 (cd : Nat), .int .i64 (q : Nat), .int .i64 1]) ∧ Below X.heap.size X w') := Lib.hid fun X hX => tell_err s cd q _ X (HSE.out.below (HB6.out.trans (hX.mono HB6.out.size))) (Chn.below (HB56.out.trans (hX.mono HB56.out.size)) HEA.out) HCD.out.1 HCD.out.2
      have HFX : Hid (∀ X, Below w6.heap.size w6 X → X.cell? ⟨w5.heap.size + 1, 0, none⟩ = some (.int .i64 (cd : Nat)) ∧ X.cell? ⟨w5.heap.size + 1, 1, none⟩ = some (.int .i64 (q : Nat)) ∧ X.cell? ⟨w5.heap.size + 1, 2, none⟩ = some (.int .i64 1)) := Lib.hid fun X hX => (three_facts ((hX.block _ (lt_of_heap HF6.out)).trans HF6.out)).1
      have EF := Lib.hid (eq_faultR (cd : Nat) (q : Nat) 1)
      generalize w5.heap.size + 1 = fb at *
      refine Reg.wp_region_vals (fun X => Below w6.heap.size w6 X) (fun j => ([some (.iface 89 pv), some (.agg #[.int .i64 (cd : Nat), .int .i64 (q : Nat), .int .i64 1]), some (.agg #[.int .i64 (cd : Nat), .int .i64 (q : Nat), .int .i64 1]), some (.bool true), some (.bool true), some (.bool true), some (.bool true), some (.bool true)] : List (Option Value)).getD j none) (fun _ _ _ => True) (by kernel_rfl) (by kernel_rfl) (by kernel_rfl) (by kernel_rfl) ?rs0 ?rsE ?rsZ
      case rs0 => exact (Below.refl _ _).drew
      case rsE =>
        refine Reg.EachV.plain rfl (fun T X hS hk K hK => ?_) ?_
        · skip
          have g7 : T[7]? = some (.iface 89 pv) := hk.old 7 (by kernel_rfl) rfl
          have hK := hK _ X hS (Reg.Is.of_val rfl) (fun _ _ _ h => h)
          clear hk
          go_simp
          exact hK
        refine Reg.EachV.plain rfl (fun T X hS hk K hK => ?_) ?_
        · skip
          have g32 : T[32]? = some (.iface 89 pv) := hk.val 0 32 (by kernel_rfl) (by kernel_rfl) rfl
          clear hk
          go_simp
          refine (HTL.out X hS).mono ?_
          rintro e w1 ⟨rfl, hb⟩
          exact hK _ _ (hS.trans (hb.mono hS.size)) (Reg.Is.of_val rfl) (fun _ _ _ h => h)
        refine Reg.EachV.plain rfl (fun T X hS hk K hK => ?_) ?_
        · skip
          have g9 : T[9]? = some (.pointer (some ⟨fb, 0, none⟩)) := hk.old 9 (by kernel_rfl) rfl
          obtain ⟨c0, c1, c2⟩ := HFX.out X hS
          have hK := hK _ X hS (Reg.Is.of_val rfl) (fun _ _ _ h => h)
          clear hk
          go_simp
          exact hK
        refine Reg.EachV.plain rfl (fun T X hS hk K hK => ?_) ?_
        · skip
          have g33 : T[33]? = some (.agg #[.int .i64 (cd : Nat), .int .i64 (q : Nat), .int .i64 1]) := hk.val 1 33 (by kernel_rfl) (by kernel_rfl) rfl
          have g34 : T[34]? = some (.agg #[.int .i64 (cd : Nat), .int .i64 (q : Nat), .int .i64 1]) := hk.val 2 34 (by kernel_rfl) (by kernel_rfl) rfl
          have q2 := EF.out
          have hK := hK _ X hS (Reg.Is.of_val rfl) (fun _ _ _ h => h)
          clear hk
          go_simp
          exact hK
        refine Reg.EachV.plain rfl (fun T X hS hk K hK => ?_) ?_
        · skip
          have g35 : T[35]? = some (.bool true) := hk.val 3 35 (by kernel_rfl) (by kernel_rfl) rfl
          have hK := hK _ X hS (Reg.Is.of_val rfl) (fun _ _ _ h => h)
          clear hk
          go_simp
          exact hK
        refine Reg.EachV.guarded 4 36 true rfl (by kernel_rfl) (by kernel_rfl) rfl (fun T X hS hk K hK => ?_) ?_
        · skip
          clear hk
          go_simp
          refine (HAW.out X (HB6.out.trans (hS.mono HB6.out.size))).mono ?_
          rintro e w1 ⟨rfl, hb⟩
          exact hK _ _ (hS.trans (hb.mono hS.size)) (Reg.Is.of_val rfl) (fun _ _ _ h => h)
        refine Reg.EachV.plain rfl (fun T X hS hk K hK => ?_) ?_
        · skip
          have g36 : T[36]? = some (.bool true) := hk.val 4 36 (by kernel_rfl) (by kernel_rfl) rfl
          have g37 : T[37]? = some (.bool true) := hk.val 5 37 (by kernel_rfl) (by kernel_rfl) rfl
          have hK := hK _ X hS (Reg.Is.of_val rfl) (fun _ _ _ h => h)
          clear hk
          go_simp
          exact hK
        refine Reg.EachV.plain rfl (fun T X hS hk K hK => ?_) ?_
        · skip
          have g38 : T[38]? = some (.bool true) := hk.val 6 38 (by kernel_rfl) (by kernel_rfl) rfl
          have hK := hK _ X hS (Reg.Is.of_val rfl) (fun _ _ _ h => h)
          clear hk
          go_simp
          exact hK
        exact Reg.EachV.nil
      case rsZ =>
        intro u w1 hS hI
        have e0 : u 0 = .iface 89 pv := (hI 0 (by decide)).val rfl
        have e1 : u 1 = .agg #[.int .i64 (cd : Nat), .int .i64 (q : Nat), .int .i64 1] := (hI 1 (by decide)).val rfl
        have e2 : u 2 = .agg #[.int .i64 (cd : Nat), .int .i64 (q : Nat), .int .i64 1] := (hI 2 (by decide)).val rfl
        have e3 : u 3 = .bool true := (hI 3 (by decide)).val rfl
        have e4 : u 4 = .bool true := (hI 4 (by decide)).val rfl
        have e5 : u 5 = .bool true := (hI 5 (by decide)).val rfl
        have e6 : u 6 = .bool true := (hI 6 (by decide)).val rfl
        have e7 : u 7 = .bool true := (hI 7 (by decide)).val rfl
        clear hI
        simp only [Reg.putAll, Act.put, List.setIfInBounds_toArray, List.set_cons_succ, List.set_cons_zero, Nat.zero_add, Nat.reduceAdd, e0, e1, e2, e3, e4, e5, e6, e7]
        clear e0 e1 e2 e3 e4 e5 e6 e7
        have HZ := Lib.hid (HB6.out.trans (hS.mono HB6.out.size))
        clear hS
        go_wp2
        go_ret
        exact ⟨rfl, HZ.out⟩

set_option maxRecDepth 100000 in
theorem arithLong_open {H : Type} {enc : TypeId × Value → H} {d0 d1 : DataW H} {p0 p1 : List MemPlace} {q : Prop} (W : World) (base : Nat) (v0 v1 : Value)
    (h0 : DataW.Trod enc Tryz.prog W 0 (fun _ => true) true 3 v0 d0 p0) (h1 : DataW.Trod enc Tryz.prog W 0 (fun _ => true) true 5 v1 d1 p1)
    (k0 : Value.okWide Tryz.prog W .any base 3 v0) (k1 : Value.okWide Tryz.prog W .any base 5 v1) (_ : q) (hL : laidMetH Tryz.prog Rows.arithLongRow.laid W) :
    Calls Tryz.prog 3 #[v0, v1] W fun e W' => e = .returned (.bool true) ∧ Below W.heap.size W W' := by
  obtain ⟨n, rfl, rfl, rfl, wx⟩ := ChangeShapes.open_int Tryz.underlying3 k0 h0
  obtain ⟨c, rfl, rfl, rfl, wy⟩ := ChangeShapes.open_int Tryz.underlying5 k1 h1
  obtain ⟨s, he, hT⟩ := art_of_laid ⟨("math/bits.deBruijn32tab", Rows.laid_math_bits_deBruijn32tab), ("math/bits.deBruijn64tab", Rows.laid_math_bits_deBruijn64tab), by kernel_rfl⟩ (by kernel_rfl) hL
  obtain ⟨hc0, hc1⟩ := byte_wfR wy
  have hnn : 0 ≤ (n.tmod 2100 + 2100) % 2100 := Int.emod_nonneg _ (by omega)
  obtain ⟨m, hm⟩ : ∃ m : Nat, (m : Int) = (n.tmod 2100 + 2100) % 2100 := ⟨((n.tmod 2100 + 2100) % 2100).toNat, by omega⟩
  obtain ⟨r, hr⟩ := parseP_some (List.replicate m c)
  cases r with
  | ok ex t => exact long_ok n c hc0 hc1 s W he hT m hm hr
  | bad cd p => exact long_bad n c hc0 hc1 s W he hT m hm hr
end Go.Proofs.YtacfglopionkfaaGreatDoor
