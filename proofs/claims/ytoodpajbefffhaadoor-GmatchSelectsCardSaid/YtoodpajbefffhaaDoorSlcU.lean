/- The contract of the reference's Put (gen_put.py). -/
import Derived.Test.YtoodpajbefffhaaDoorSlcG
import Derived.ArgAppend
import Derived.Sort.Walk0
namespace Go.Proofs.YtoodpajbefffhaaDoor
open Go.RowKit

theorem own_low {X : World} {B B' : Nat} {e : TypeId} {s : Nat} {v : Value} {n : Nat} {xs : List Value} (h : X.ownsRow B' e s v n xs) (hb : B ≤ B') : X.ownsRow B e s v n xs := by
  obtain ⟨h1, h2 | ⟨g, cap, cur, hv, hg, h3⟩⟩ := h
  · exact ⟨h1, Or.inl h2⟩
  · exact ⟨h1, Or.inr ⟨g, cap, cur, hv, Nat.le_trans hb hg, h3⟩⟩
theorem putL_at (x : List UInt8) : ∀ (L : List (List UInt8)) (k : Nat), (∀ j y, j < k → L[j]? = some y → y < x) → (L.length ≤ k ∨ ∃ y, L[k]? = some y ∧ ¬ y < x ∧ y ≠ x) → putL x L = L.take k ++ x :: L.drop k
  | [], k, _, _ => by simp [putL]
  | z :: r, 0, _, h => by
    rcases h with h | ⟨y, hy, h1, h2⟩
    · simp at h
    · simp only [List.getElem?_cons_zero, Option.some.injEq] at hy
      subst hy
      unfold putL
      rw [if_neg h1, if_neg h2]; rfl
  | z :: r, k + 1, hk, h => by
    unfold putL
    rw [if_pos (hk 0 z (by omega) rfl), putL_at x r k (fun j y hj hy => hk (j + 1) y (by omega) (by simpa using hy)) (by simpa using h)]
    rfl
theorem putL_same (x : List UInt8) : ∀ (L : List (List UInt8)) (k : Nat), (∀ j y, j < k → L[j]? = some y → y < x) → L[k]? = some x → putL x L = L
  | [], k, _, h => by simp at h
  | z :: r, 0, _, h => by
    simp only [List.getElem?_cons_zero, Option.some.injEq] at h
    subst h
    unfold putL
    rw [if_neg (nm_irrefl z), if_pos rfl]
  | z :: r, k + 1, hk, h => by
    unfold putL
    rw [if_pos (hk 0 z (by omega) rfl), putL_same x r k (fun j y hj hy => hk (j + 1) y (by omega) (by simpa using hy)) (by simpa using h)]
theorem less_nm (y x : List UInt8) : Op.bytesLess (⟨y.toArray⟩ : ByteArray).toList (⟨x.toArray⟩ : ByteArray).toList = decide (y < x) := by
  rw [ByteArray.toList_eq, ByteArray.toList_eq, bytesLess_eq]
theorem same_nm (y x : List UInt8) : ((⟨y.toArray⟩ : ByteArray) == ⟨x.toArray⟩) = decide (y = x) := by
  show ((y.toArray : Array UInt8) == x.toArray) = _
  rw [Bool.eq_iff_iff]
  simp
theorem wp_grows {P : Program} {o : Oper} {a : Act} {w : World} {K : Act → World → Prop} {Q : Exit → Act → World → Prop}
    (s x : Operand) (t : TypeId) (hop : o.op = Op.call { callee := Callee.builtin Builtin.append, args := #[s, x], argTypes := #[t, t] })
    (e : TypeId) (i : TypeInfo) (z : Value) (size bytes : Nat) (h1 : P.underlying t = some (.slice e)) (h2 : P.info? e = some i) (h3 : i.zero = some z) (h4 : i.size = size) (h5 : i.bytes = bytes) (h6 : z.cells.size = size) (h7 : 0 < size)
    (b : Addr) (n cap : Nat) (olds : List Value) (hs : a.eval s = .slice (some b) n cap) (hlo : olds.length = n * size) (holds : ∀ j u, olds[j]? = some u → w.cell? (b.add j) = some u)
    (ad : Addr) (m c : Nat) (news : List Value) (hx : a.eval x = .slice (some ad) m c) (hn : news.length = m * size) (hc : ∀ j u, news[j]? = some u → w.cell? (ad.add j) = some u)
    (hfull : cap < n + m) (b1 : n + m ≤ maxLen) (b2 : (n + m) * bytes ≤ 140737488355328)
    (hK : ∀ v' w', w'.ownsRow w.heap.size e size v' (n + m) (olds ++ news) → w.grownBy w' none → K (a.put o.dst v') w') : Oper.wp P o a w K Q := by
  obtain ⟨v', w', hrun, r1, r2⟩ := run_append_arg_grows (P := P) w t o.type e i z size bytes h1 h2 h3 h4 h5 h6 h7 b n cap olds hlo holds ad m c news hn hc hfull b1 b2
  unfold Oper.wp
  simp [execOp, hop, resolve, invoke, builtin, hs, hx, hrun, Result.andThen]
  exact hK v' w' r1 r2
theorem wp_own_none {o : Oper} {a : Act} {w : World} {K : Act → World → Prop} {Q : Exit → Act → World → Prop} (s x : Operand) (ho : o.op = Op.call { callee := Callee.builtin Builtin.append, args := #[s, x], argTypes := #[23, 23] })
    (base : Nat) (v : Value) (n : Nat) (xs : List Value) (hs : a.eval s = v) (hown : w.ownsRow base 9 1 v n xs) (hx : a.eval x = .slice none 0 0) (h : K (a.put o.dst v) w) : Oper.wp Tryd.prog o a w K Q := by
  obtain ⟨i1, ki, kz0, kz1, kz2⟩ := info_parts strq_row
  have hrun := run_append_owned_none (P := Tryd.prog) (w := w) base 23 o.type 9 i1 1 Tryd.underlying23 ki v n _ hown
  unfold Oper.wp
  simp [execOp, ho, resolve, invoke, builtin, hs, hx, hrun, Result.andThen]
  exact h
/-- What lies while the new row is laid. -/
structure PuI (W : World) (x : Value) (C1 C2 : List Value) (l5 l9 l10 l11 : Bool) (u5 u9 u10 u11 : Value) (X : World) : Prop where
  bel : Below W.heap.size W X
  i5 : l9 = true → l5 = true
  i9 : l10 = true → l9 = true
  i11 : l11 = true → l10 = true
  szz : l5 = false → X.heap.size = W.heap.size
  lit : l5 = true → l9 = false → u5 = .slice (some ⟨W.heap.size, 0, none⟩) 1 1 ∧ X.ownsRow W.heap.size 9 1 u5 1 [x]
  mid : l9 = true → l10 = false → X.ownsRow W.heap.size 9 1 u9 (1 + C2.length) (x :: C2)
  fin : l10 = true → X.ownsRow W.heap.size 9 1 u10 (C1.length + (1 + C2.length)) (C1 ++ x :: C2)
  asg : l11 = true → u11 = u10
theorem lit_own (X : World) (x : Value) : (X.alloc (.cells #[x] 9)).ownsRow X.heap.size 9 1 (.slice (some ⟨X.heap.size, 0, none⟩) 1 1) 1 [x] :=
  ⟨rfl, Or.inr ⟨X.heap.size, 1, #[x], rfl, Nat.le_refl _, alloc_last X _, Nat.le_refl _, by unfold maxLen; omega, rfl, rfl⟩⟩

set_option maxRecDepth 100000 in
set_option maxHeartbeats 16000000 in
theorem rput_any (L : List (List UInt8)) (x : List UInt8) (v : Value) (B : Nat) (w : World) (hown : w.ownsRow B 9 1 v L.length (L.map nmV)) (hB : B ≤ w.heap.size) (hL : L.length ≤ 40) :
    Calls Tryd.prog 22 #[v, nmV x] w fun e w' => ∃ v', e = .returned v' ∧ w'.ownsRow B 9 1 v' (putL x L).length ((putL x L).map nmV) ∧ Below w.heap.size w w' := by
  obtain ⟨i1, ki, kz0, kz1, kz2⟩ := info_parts strq_row
  obtain ⟨va, vc, rfl⟩ := own_shapeK hown
  have HOWN := Lib.hid hown
  obtain ⟨n, hn⟩ : ∃ n, n = L.length := ⟨_, rfl⟩
  have HN := Lib.hid hn
  rw [← hn] at hL HOWN ⊢
  clear hown hn
  unfold nmV
  obtain ⟨sx, hsx⟩ : ∃ sx, sx = (⟨x.toArray⟩ : ByteArray) := ⟨_, rfl⟩
  have HSX := Lib.hid hsx
  rw [← hsx]
  clear hsx
  go_enter Tryd.func22, Tryd.ntmps22
  go_wp2_with fail
  go_loopw [5] (fun i X => ∃ k : Nat, i = .int .i64 (k : Nat) ∧ k ≤ n ∧ Hid (∀ j y, j < k → L[j]? = some y → y < x) ∧ Hid (Below w.heap.size w X)) (fun i _ => n - (intOf i).toNat)
  case atStart => exact ⟨0, rfl, Nat.zero_le _, Lib.hid (fun j y hj => absurd hj (by omega)), Lib.hid (Below.refl _ _)⟩
  case round =>
    obtain ⟨k, rfl, hk, HA, HB⟩ := hrel
    obtain ⟨wo, rfl⟩ : ∃ wo : World, wo = wr := ⟨_, rfl⟩
    have HO := Lib.hid (own_drop HOWN.out HB.out)
    by_cases hlt : k < n
    · have hltL : k < L.length := by rw [← HN.out]; exact hlt
      obtain ⟨y, hy⟩ : ∃ y, L[k]? = some y := ⟨L[k], List.getElem?_eq_getElem hltL⟩
      obtain ⟨g, rfl⟩ : ∃ g, va = some ⟨g, 0, none⟩ := by
        rcases HO.out.2 with ⟨hv, h0⟩ | ⟨g, cap', cur, hv, _⟩
        · omega
        · simp only [Value.slice.injEq] at hv; exact ⟨g, hv.1⟩
      have hcell := HO.out.cells (g := g) rfl k (nmV y) (by rw [List.getElem?_map, hy]; rfl)
      rw [WideShapes.add_plain, Nat.zero_add] at hcell
      unfold nmV at hcell
      have hless : Op.bytesLess (⟨y.toArray⟩ : ByteArray).toList sx.toList = decide (y < x) := by rw [HSX.out]; exact less_nm y x
      have hsame : ((⟨y.toArray⟩ : ByteArray) == sx) = decide (y = x) := by rw [HSX.out]; exact same_nm y x
      obtain ⟨sy, hsy⟩ : ∃ sy, sy = (⟨y.toArray⟩ : ByteArray) := ⟨_, rfl⟩
      have HSY := Lib.hid hsy
      rw [← hsy] at hcell hless hsame
      clear hsy
      have hcz := World.block_lt_of_cell? _ _ hcell
      have hkI : (k : Int) < (n : Int) := by omega
      have HY := Lib.hid hy
      clear hy
      by_cases hyx : y < x
      · rw [decide_eq_true hyx] at hless
        have HA2 : Hid (∀ j z, j < k + 1 → L[j]? = some z → z < x) := Lib.hid fun j z hj hz => by
          by_cases hjk : j = k
          · subst hjk
            rw [HY.out] at hz
            simp only [Option.some.injEq] at hz
            rw [← hz]; exact hyx
          · exact HA.out j z (by omega) hz
        clear hyx
        go_wp2_with fail
        go_roundw
        case rel => exact ⟨k + 1, by go_num, by omega, HA2, HB⟩
        case measure => simp [intOf]; omega
      · rw [decide_eq_false hyx] at hless
        by_cases hye : y = x
        · rw [decide_eq_true hye] at hsame
          have HPS : Hid (putL x L = L) := Lib.hid (putL_same x L k HA.out (by rw [HY.out, hye]))
          obtain rfl : sy = sx := by rw [HSY.out, HSX.out, hye]
          clear hyx hye
          go_wp2
          go_ret
          exact ⟨_, rfl, by rw [HPS.out, ← HN.out]; exact HO.out, HB.out⟩
        · rw [decide_eq_false hye] at hsame
          have hnP : ¬ sy = sx := fun e => hye (by rw [HSY.out, HSX.out] at e; have := congrArg (fun b => b.data.toList) e; simpa using this)
          have hnL : ¬ sy.toList = sx.toList := fun e => hye (by rw [HSY.out, HSX.out, ByteArray.toList_eq, ByteArray.toList_eq] at e; simpa using e)
          have hnS : (sy.toList == sx.toList) = false := beq_eq_false_iff_ne.2 hnL
          have HPL : Hid (putL x L = L.take k ++ x :: L.drop k) := Lib.hid (putL_at x L k HA.out (Or.inr ⟨y, HY.out, hyx, hye⟩))
          clear hyx hye
          obtain ⟨C1, hC1⟩ : ∃ C1, C1 = (L.take k).map nmV := ⟨_, rfl⟩
          obtain ⟨C2, hC2⟩ : ∃ C2, C2 = (L.drop k).map nmV := ⟨_, rfl⟩
          have HSP : Hid (L.map nmV = C1 ++ C2) := Lib.hid (by rw [hC1, hC2, ← List.map_append, List.take_append_drop])
          have HPM : Hid ((putL x L).map nmV = C1 ++ .string sx :: C2 ∧ (putL x L).length = C1.length + (1 + C2.length)) := Lib.hid (by
            rw [HPL.out, List.map_append, List.map_cons, hC1, hC2, HSX.out]
            refine ⟨rfl, ?_⟩
            simp
            omega)
          have hl1 : C1.length = k := by rw [hC1, List.length_map, List.length_take, ← HN.out]; omega
          have hl2 : C2.length = n - k := by rw [hC2, List.length_map, List.length_drop, ← HN.out]
          have HL1 := Lib.hid hl1
          have HL2 := Lib.hid hl2
          have HONE : Hid (∀ u ∈ C2, u.oneCell' = true) := Lib.hid (by
            rw [hC2]
            intro u hu
            obtain ⟨z, _, rfl⟩ := List.mem_map.1 hu
            rfl)
          clear hC1 hC2 hl1 hl2
          have HCS : Hid (∀ X, Below wo.heap.size wo X → (∀ j u, C1[j]? = some u → X.cell? ((⟨g, 0, none⟩ : Addr).add j) = some u) ∧ (∀ j u, C2[j]? = some u → X.cell? ((⟨g, k, none⟩ : Addr).add j) = some u)) := Lib.hid fun X hX => by
            have ho := own_drop HO.out hX
            rw [HSP.out] at ho
            refine ⟨fun j u hj => ho.cells (g := g) rfl j u (by rw [List.getElem?_append_left (List.getElem?_eq_some_iff.1 hj).1]; exact hj), fun j u hj => ?_⟩
            have := ho.cells (g := g) rfl (k + j) u (by rw [List.getElem?_append_right (by rw [HL1.out]; omega), HL1.out, Nat.add_sub_cancel_left]; exact hj)
            rw [WideShapes.add_plain] at this ⊢
            rw [Nat.zero_add] at this
            exact this
          have hgz : g < wo.heap.size := by
            rcases HO.out.2 with ⟨hv, _⟩ | ⟨g', cap', cur', hv, _, hb', _⟩
            · simp at hv
            · simp only [Value.slice.injEq, Option.some.injEq, Addr.mk.injEq] at hv
              rw [hv.1.1]; exact lt_blkB hb'
          obtain ⟨d2, hd2⟩ : ∃ d2, d2 = (if vc = k then (some ⟨g, 0, none⟩ : Option Addr) else some ⟨g, k, none⟩) := ⟨_, rfl⟩
          have hd2' := hd2.symm
          have HD2 : Hid (∃ ad, d2 = some ad ∧ ∀ X, Below wo.heap.size wo X → ∀ j u, C2[j]? = some u → X.cell? (ad.add j) = some u) := Lib.hid (by
            by_cases hc : vc = k
            · refine ⟨⟨g, 0, none⟩, by rw [hd2, if_pos hc], fun X hX j u hj => ?_⟩
              have h1 := (List.getElem?_eq_some_iff.1 hj).1
              have h2 := HL2.out
              have h3 : n ≤ vc := by
                rcases HO.out.2 with ⟨hv, _⟩ | ⟨g', cap', cur', hv, _, _, h, _⟩
                · simp at hv
                · simp only [Value.slice.injEq] at hv
                  omega
              omega
            · refine ⟨⟨g, k, none⟩, by rw [hd2, if_neg hc], fun X hX => ((HCS.out X hX).2)⟩)
          have hvc : n ≤ vc := by
            rcases HO.out.2 with ⟨hv, _⟩ | ⟨g', cap', cur', hv, _, _, h, _⟩
            · simp at hv
            · simp only [Value.slice.injEq] at hv
              omega
          have hkvc : k ≤ vc := by omega
          clear hd2
          go_wp2_with fail
          refine Reg.wp_region_sto (fun L' u' X => PuI wo (.string sx) C1 C2 (L' 5) (L' 9) (L' 10) (L' 11) (u' 5) (u' 9) (u' 10) (u' 11) X) (fun j => ([some (.slice (some ⟨g, 0, none⟩) n vc), some (.int .i64 (k : Nat)), some (.int .i64 (k : Nat)), some (.slice (some ⟨g, 0, none⟩) k k), some (.string sx), none, some (.slice (some ⟨g, 0, none⟩) n vc), some (.int .i64 (k : Nat)), some (.slice d2 (n - k) (vc - k)), none, none, none] : List (Option Value)).getD j none) (by kernel_rfl) (by kernel_rfl) (by kernel_rfl) (by kernel_rfl) ?rs0 ?rsE ?rsZ
          case rs0 => exact ⟨(Below.refl _ _).drew, fun h => (by cases h), fun h => (by cases h), fun h => (by cases h), fun _ => rfl, fun h => (by cases h), fun h => (by cases h), fun h => (by cases h), fun h => (by cases h)⟩
          case rsE =>
            refine Reg.EachG.plain rfl (fun L u T X hL hz hS hk K hK => ?_) ?_
            · skip
              have g0 : T[0]? = some (.slice (some ⟨g, 0, none⟩) n vc) := hk.old 0 (by kernel_rfl) rfl
              have hK := hK _ X hS (fun _ hx => Option.some.inj hx)
              clear hk hz hL
              go_simp
              exact hK
            refine Reg.EachG.plain rfl (fun L u T X hL hz hS hk K hK => ?_) ?_
            · skip
              have g5 : T[5]? = some (.int .i64 (k : Nat)) := hk.old 5 (by kernel_rfl) rfl
              have hK := hK _ X hS (fun _ hx => Option.some.inj hx)
              clear hk hz hL
              go_simp
              exact hK
            refine Reg.EachG.plain rfl (fun L u T X hL hz hS hk K hK => ?_) ?_
            · skip
              have g5 : T[5]? = some (.int .i64 (k : Nat)) := hk.old 5 (by kernel_rfl) rfl
              have hK := hK _ X hS (fun _ hx => Option.some.inj hx)
              clear hk hz hL
              go_simp
              exact hK
            refine Reg.EachG.plain rfl (fun L u T X hL hz hS hk K hK => ?_) ?_
            · skip
              have g33 : T[33]? = some (.slice (some ⟨g, 0, none⟩) n vc) := hk.val 0 33 (by kernel_rfl) (by kernel_rfl) rfl
              have g34 : T[34]? = some (.int .i64 (k : Nat)) := hk.val 1 34 (by kernel_rfl) (by kernel_rfl) rfl
              have g35 : T[35]? = some (.int .i64 (k : Nat)) := hk.val 2 35 (by kernel_rfl) (by kernel_rfl) rfl
              have hK := hK _ X hS (fun _ hx => Option.some.inj hx)
              clear hk hz hL
              go_simp
              exact hK
            refine Reg.EachG.plain rfl (fun L u T X hL hz hS hk K hK => ?_) ?_
            · skip
              have g1 : T[1]? = some (.string sx) := hk.old 1 (by kernel_rfl) rfl
              have hK := hK _ X hS (fun _ hx => Option.some.inj hx)
              clear hk hz hL
              go_simp
              exact hK
            refine Reg.EachG.plain rfl (fun L u T X hL hz hS hk K hK => ?_) ?_
            · skip
              have g37 : T[37]? = some (.string sx) := hk.val 4 37 (by kernel_rfl) (by kernel_rfl) rfl
              have hd9 : L 9 = false := hz 9 (by kernel_rfl)
              have hd10 : L 10 = false := by cases h : L 10; rfl; (have := hS.i9 h; rw [hd9] at this; cases this)
              have hd11 : L 11 = false := by cases h : L 11; rfl; (have := hS.i11 h; rw [hd10] at this; cases this)
              have ho := lit_own X (.string sx)
              rw [hS.szz hL] at ho
              have hK := hK (.slice (some ⟨X.heap.size, 0, none⟩) 1 1) (X.alloc (.cells #[.string sx] 9)) ⟨hS.bel.alloc hS.bel.size _, fun _ => Reg.upd_same _ _ _, fun h => (by rw [Reg.upd_ne _ _ (by decide), hd10] at h; cases h), fun h => (by rw [Reg.upd_ne _ _ (by decide), hd11] at h; cases h), fun h => (by rw [Reg.upd_same] at h; cases h), fun _ _ => ⟨by rw [Reg.upd_same, hS.szz hL], by rw [Reg.upd_same, hS.szz hL]; exact ho⟩, fun h => (by rw [Reg.upd_ne _ _ (by decide), hd9] at h; cases h), fun h => (by rw [Reg.upd_ne _ _ (by decide), hd10] at h; cases h), fun h => (by rw [Reg.upd_ne _ _ (by decide), hd11] at h; cases h)⟩ (fun _ hx => by cases hx)
              clear hk hz hL hd9 hd10 hd11 hS ho
              go_simp
              exact hK
            refine Reg.EachG.plain rfl (fun L u T X hL hz hS hk K hK => ?_) ?_
            · skip
              have g0 : T[0]? = some (.slice (some ⟨g, 0, none⟩) n vc) := hk.old 0 (by kernel_rfl) rfl
              have hK := hK _ X hS (fun _ hx => Option.some.inj hx)
              clear hk hz hL
              go_simp
              exact hK
            refine Reg.EachG.plain rfl (fun L u T X hL hz hS hk K hK => ?_) ?_
            · skip
              have g5 : T[5]? = some (.int .i64 (k : Nat)) := hk.old 5 (by kernel_rfl) rfl
              have hK := hK _ X hS (fun _ hx => Option.some.inj hx)
              clear hk hz hL
              go_simp
              exact hK
            refine Reg.EachG.plain rfl (fun L u T X hL hz hS hk K hK => ?_) ?_
            · skip
              have g39 : T[39]? = some (.slice (some ⟨g, 0, none⟩) n vc) := hk.val 6 39 (by kernel_rfl) (by kernel_rfl) rfl
              have g40 : T[40]? = some (.int .i64 (k : Nat)) := hk.val 7 40 (by kernel_rfl) (by kernel_rfl) rfl
              have hK := hK _ X hS (fun _ hx => Option.some.inj hx)
              clear hk hz hL
              go_simp
              exact hK
            refine Reg.EachG.plain rfl (fun L u T X hL hz hS hk K hK => ?_) ?_
            · skip
              obtain ⟨g38, l38⟩ := hk.any 5 38 (by kernel_rfl) (by kernel_rfl)
              have g41 : T[41]? = some (.slice d2 (n - k) (vc - k)) := hk.val 8 41 (by kernel_rfl) (by kernel_rfl) rfl
              have hd10 : L 10 = false := hz 10 (by kernel_rfl)
              have hd11 : L 11 = false := by cases h : L 11; rfl; (have := hS.i11 h; rw [hd10] at this; cases this)
              obtain ⟨e5, ho5⟩ := hS.lit l38 hL
              rw [e5] at g38 ho5
              obtain ⟨ad, hda, hcc⟩ := HD2.out
              rw [hda] at g41
              refine wp_append_own X (.tmp 38) (.tmp 41) 23 rfl wo.heap.size 9 i1 (.string ⟨#[]⟩) 1 16 Tryd.underlying23 ki kz0 kz1 kz2 rfl (by decide) _ 1 [.string sx] (by simp [Act.eval, g38]) ho5 ad (n - k) (vc - k) C2 (by simp [Act.eval, g41]) (by rw [HL2.out]; omega) (hcc X hS.bel) HONE.out (by unfold maxLen; omega) (by omega) hS.bel.size ?_
              intro v' w' hown' hgr _
              exact hK v' w' ⟨hS.bel.grown hgr hS.bel.size (fun j hj => (ho5.lt j hj).1), fun _ => (by rw [Reg.upd_ne _ _ (by decide)]; exact l38), fun _ => Reg.upd_same _ _ _, fun h => (by rw [Reg.upd_ne _ _ (by decide), hd11] at h; cases h), fun h => (by rw [Reg.upd_ne _ _ (by decide), l38] at h; cases h), fun _ h => (by rw [Reg.upd_same] at h; cases h), fun _ _ => (by rw [Reg.upd_same]; exact (by rw [HL2.out]; exact hown')), fun h => (by rw [Reg.upd_ne _ _ (by decide), hd10] at h; cases h), fun h => (by rw [Reg.upd_ne _ _ (by decide), hd11] at h; cases h)⟩ (fun _ hx => by cases hx)
            refine Reg.EachG.plain rfl (fun L u T X hL hz hS hk K hK => ?_) ?_
            · skip
              have g36 : T[36]? = some (.slice (some ⟨g, 0, none⟩) k k) := hk.val 3 36 (by kernel_rfl) (by kernel_rfl) rfl
              obtain ⟨g42, l42⟩ := hk.any 9 42 (by kernel_rfl) (by kernel_rfl)
              have hd11 : L 11 = false := hz 11 (by kernel_rfl)
              have hmid := hS.mid l42 hL
              obtain ⟨a9, c9, e9⟩ := own_shapeK hmid
              rw [e9] at g42 hmid
              obtain ⟨g9, rfl⟩ : ∃ g9, a9 = some ⟨g9, 0, none⟩ := by
                rcases hmid.2 with ⟨hv, h0⟩ | ⟨g', cap', cur', hv, _⟩
                · omega
                · simp only [Value.slice.injEq] at hv; exact ⟨g', hv.1⟩
              refine wp_grows (.tmp 36) (.tmp 42) 23 rfl 9 i1 (.string ⟨#[]⟩) 1 16 Tryd.underlying23 ki kz0 kz1 kz2 rfl (by decide) ⟨g, 0, none⟩ k k C1 (by simp [Act.eval, g36]) (by rw [HL1.out]; omega) (HCS.out X hS.bel).1 ⟨g9, 0, none⟩ (1 + C2.length) c9 (.string sx :: C2) (by simp [Act.eval, g42]) (by simp; omega) (fun j u hj => hmid.cells (g := g9) rfl j u hj) (by omega) (by have := HL2.out; unfold maxLen; omega) (by have := HL2.out; omega) ?_
              intro v' w' hown' hgr
              exact hK v' w' ⟨hS.bel.grown hgr hS.bel.size (fun j hj => by cases hj), fun h => (by rw [Reg.upd_ne _ _ (by decide)] at h ⊢; exact hS.i5 h), fun _ => (by rw [Reg.upd_ne _ _ (by decide)]; exact l42), fun h => (by rw [Reg.upd_ne _ _ (by decide), hd11] at h; cases h), fun h => (by rw [Reg.upd_ne _ _ (by decide), hS.i5 l42] at h; cases h), fun _ h => (by rw [Reg.upd_ne _ _ (by decide), l42] at h; cases h), fun _ h => (by rw [Reg.upd_same] at h; cases h), fun _ => (by rw [Reg.upd_same]; have h1 := own_low hown' hS.bel.size; rw [← HL1.out] at h1; exact h1), fun h => (by rw [Reg.upd_ne _ _ (by decide), hd11] at h; cases h)⟩ (fun _ hx => by cases hx)
            refine Reg.EachG.plain rfl (fun L u T X hL hz hS hk K hK => ?_) ?_
            · skip
              obtain ⟨g43, l43⟩ := hk.any 10 43 (by kernel_rfl) (by kernel_rfl)
              have hK := hK (u 10) X ⟨hS.bel, hS.i5, hS.i9, fun _ => l43, hS.szz, hS.lit, hS.mid, hS.fin, fun _ => (by rw [Reg.upd_same, Reg.upd_ne _ _ (by decide)])⟩ (fun _ hx => by cases hx)
              obtain ⟨a10, c10, e10⟩ := own_shapeK (hS.fin l43)
              rw [e10] at hK g43
              clear hk hz hL hS
              go_simp
              exact hK
            exact Reg.EachG.nil
          case rsZ =>
            intro L u w9 hL hS hI
            have e0 : u 0 = .slice (some ⟨g, 0, none⟩) n vc := hI 0 (by decide) _ rfl
            have e1 : u 1 = .int .i64 (k : Nat) := hI 1 (by decide) _ rfl
            have e2 : u 2 = .int .i64 (k : Nat) := hI 2 (by decide) _ rfl
            have e3 : u 3 = .slice (some ⟨g, 0, none⟩) k k := hI 3 (by decide) _ rfl
            have e4 : u 4 = .string sx := hI 4 (by decide) _ rfl
            have e6 : u 6 = .slice (some ⟨g, 0, none⟩) n vc := hI 6 (by decide) _ rfl
            have e7 : u 7 = .int .i64 (k : Nat) := hI 7 (by decide) _ rfl
            have e8 : u 8 = .slice d2 (n - k) (vc - k) := hI 8 (by decide) _ rfl
            clear hI
            simp only [Reg.putAll, Act.put, List.setIfInBounds_toArray, List.set_cons_succ, List.set_cons_zero, Nat.zero_add, Nat.reduceAdd, e0, e1, e2, e3, e4, e6, e7, e8]
            clear e0 e1 e2 e3 e4 e6 e7 e8
            have d10 := hL 10 (by decide)
            have d11 := hL 11 (by decide)
            have hfin := hS.fin d10
            rw [← hS.asg d11] at hfin
            have HBX := Lib.hid (below_thn HB.out (Nat.le_refl _) hS.bel)
            have HFN := Lib.hid (own_low hfin (Nat.le_trans hB HB.out.size))
            generalize u 11 = y11 at *
            clear hS hfin d10 d11 hL
            go_wp2
            go_ret
            exact ⟨_, rfl, (by have h1 := HFN.out; rw [← HPM.out.1, ← HPM.out.2] at h1; exact h1), HBX.out⟩
    · have hkn : k = n := by omega
      have hkI : ¬ (k : Int) < (n : Int) := by omega
      have HPL : Hid (putL x L = L.take k ++ x :: L.drop k) := Lib.hid (putL_at x L k HA.out (Or.inl (by rw [← HN.out]; omega)))
      obtain ⟨C1, hC1⟩ : ∃ C1, C1 = (L.take k).map nmV := ⟨_, rfl⟩
      obtain ⟨C2, hC2⟩ : ∃ C2, C2 = (L.drop k).map nmV := ⟨_, rfl⟩
      cases va with
      | some ga =>
        obtain ⟨g, rfl⟩ : ∃ g, ga = ⟨g, 0, none⟩ := by
          rcases HO.out.2 with ⟨hv, h0⟩ | ⟨g, cap', cur, hv, _⟩
          · simp at hv
          · simp only [Value.slice.injEq, Option.some.injEq] at hv; exact ⟨g, hv.1⟩
        clear hkn
        have HSP : Hid (L.map nmV = C1 ++ C2) := Lib.hid (by rw [hC1, hC2, ← List.map_append, List.take_append_drop])
        have HPM : Hid ((putL x L).map nmV = C1 ++ .string sx :: C2 ∧ (putL x L).length = C1.length + (1 + C2.length)) := Lib.hid (by
          rw [HPL.out, List.map_append, List.map_cons, hC1, hC2, HSX.out]
          refine ⟨rfl, ?_⟩
          simp
          omega)
        have hl1 : C1.length = k := by rw [hC1, List.length_map, List.length_take, ← HN.out]; omega
        have hl2 : C2.length = n - k := by rw [hC2, List.length_map, List.length_drop, ← HN.out]
        have HL1 := Lib.hid hl1
        have HL2 := Lib.hid hl2
        have HONE : Hid (∀ u ∈ C2, u.oneCell' = true) := Lib.hid (by
          rw [hC2]
          intro u hu
          obtain ⟨z, _, rfl⟩ := List.mem_map.1 hu
          rfl)
        clear hC1 hC2 hl1 hl2
        have HCS : Hid (∀ X, Below wo.heap.size wo X → (∀ j u, C1[j]? = some u → X.cell? ((⟨g, 0, none⟩ : Addr).add j) = some u) ∧ (∀ j u, C2[j]? = some u → X.cell? ((⟨g, k, none⟩ : Addr).add j) = some u)) := Lib.hid fun X hX => by
          have ho := own_drop HO.out hX
          rw [HSP.out] at ho
          refine ⟨fun j u hj => ho.cells (g := g) rfl j u (by rw [List.getElem?_append_left (List.getElem?_eq_some_iff.1 hj).1]; exact hj), fun j u hj => ?_⟩
          have := ho.cells (g := g) rfl (k + j) u (by rw [List.getElem?_append_right (by rw [HL1.out]; omega), HL1.out, Nat.add_sub_cancel_left]; exact hj)
          rw [WideShapes.add_plain] at this ⊢
          rw [Nat.zero_add] at this
          exact this
        have hgz : g < wo.heap.size := by
          rcases HO.out.2 with ⟨hv, _⟩ | ⟨g', cap', cur', hv, _, hb', _⟩
          · simp at hv
          · simp only [Value.slice.injEq, Option.some.injEq, Addr.mk.injEq] at hv
            rw [hv.1.1]; exact lt_blkB hb'
        obtain ⟨d2, hd2⟩ : ∃ d2, d2 = (if vc = k then (some ⟨g, 0, none⟩ : Option Addr) else some ⟨g, k, none⟩) := ⟨_, rfl⟩
        have hd2' := hd2.symm
        have HD2 : Hid (∃ ad, d2 = some ad ∧ ∀ X, Below wo.heap.size wo X → ∀ j u, C2[j]? = some u → X.cell? (ad.add j) = some u) := Lib.hid (by
          by_cases hc : vc = k
          · refine ⟨⟨g, 0, none⟩, by rw [hd2, if_pos hc], fun X hX j u hj => ?_⟩
            have h1 := (List.getElem?_eq_some_iff.1 hj).1
            have h2 := HL2.out
            have h3 : n ≤ vc := by
              rcases HO.out.2 with ⟨hv, _⟩ | ⟨g', cap', cur', hv, _, _, h, _⟩
              · simp at hv
              · simp only [Value.slice.injEq] at hv
                omega
            omega
          · refine ⟨⟨g, k, none⟩, by rw [hd2, if_neg hc], fun X hX => ((HCS.out X hX).2)⟩)
        have hvc : n ≤ vc := by
          rcases HO.out.2 with ⟨hv, _⟩ | ⟨g', cap', cur', hv, _, _, h, _⟩
          · simp at hv
          · simp only [Value.slice.injEq] at hv
            omega
        have hkvc : k ≤ vc := by omega
        clear hd2
        go_wp2_with fail
        refine Reg.wp_region_sto (fun L' u' X => PuI wo (.string sx) C1 C2 (L' 5) (L' 9) (L' 10) (L' 11) (u' 5) (u' 9) (u' 10) (u' 11) X) (fun j => ([some (.slice (some ⟨g, 0, none⟩) n vc), some (.int .i64 (k : Nat)), some (.int .i64 (k : Nat)), some (.slice (some ⟨g, 0, none⟩) k k), some (.string sx), none, some (.slice (some ⟨g, 0, none⟩) n vc), some (.int .i64 (k : Nat)), some (.slice d2 (n - k) (vc - k)), none, none, none] : List (Option Value)).getD j none) (by kernel_rfl) (by kernel_rfl) (by kernel_rfl) (by kernel_rfl) ?rs0 ?rsE ?rsZ
        case rs0 => exact ⟨(Below.refl _ _).drew, fun h => (by cases h), fun h => (by cases h), fun h => (by cases h), fun _ => rfl, fun h => (by cases h), fun h => (by cases h), fun h => (by cases h), fun h => (by cases h)⟩
        case rsE =>
          refine Reg.EachG.plain rfl (fun L u T X hL hz hS hk K hK => ?_) ?_
          · skip
            have g0 : T[0]? = some (.slice (some ⟨g, 0, none⟩) n vc) := hk.old 0 (by kernel_rfl) rfl
            have hK := hK _ X hS (fun _ hx => Option.some.inj hx)
            clear hk hz hL
            go_simp
            exact hK
          refine Reg.EachG.plain rfl (fun L u T X hL hz hS hk K hK => ?_) ?_
          · skip
            have g5 : T[5]? = some (.int .i64 (k : Nat)) := hk.old 5 (by kernel_rfl) rfl
            have hK := hK _ X hS (fun _ hx => Option.some.inj hx)
            clear hk hz hL
            go_simp
            exact hK
          refine Reg.EachG.plain rfl (fun L u T X hL hz hS hk K hK => ?_) ?_
          · skip
            have g5 : T[5]? = some (.int .i64 (k : Nat)) := hk.old 5 (by kernel_rfl) rfl
            have hK := hK _ X hS (fun _ hx => Option.some.inj hx)
            clear hk hz hL
            go_simp
            exact hK
          refine Reg.EachG.plain rfl (fun L u T X hL hz hS hk K hK => ?_) ?_
          · skip
            have g33 : T[33]? = some (.slice (some ⟨g, 0, none⟩) n vc) := hk.val 0 33 (by kernel_rfl) (by kernel_rfl) rfl
            have g34 : T[34]? = some (.int .i64 (k : Nat)) := hk.val 1 34 (by kernel_rfl) (by kernel_rfl) rfl
            have g35 : T[35]? = some (.int .i64 (k : Nat)) := hk.val 2 35 (by kernel_rfl) (by kernel_rfl) rfl
            have hK := hK _ X hS (fun _ hx => Option.some.inj hx)
            clear hk hz hL
            go_simp
            exact hK
          refine Reg.EachG.plain rfl (fun L u T X hL hz hS hk K hK => ?_) ?_
          · skip
            have g1 : T[1]? = some (.string sx) := hk.old 1 (by kernel_rfl) rfl
            have hK := hK _ X hS (fun _ hx => Option.some.inj hx)
            clear hk hz hL
            go_simp
            exact hK
          refine Reg.EachG.plain rfl (fun L u T X hL hz hS hk K hK => ?_) ?_
          · skip
            have g37 : T[37]? = some (.string sx) := hk.val 4 37 (by kernel_rfl) (by kernel_rfl) rfl
            have hd9 : L 9 = false := hz 9 (by kernel_rfl)
            have hd10 : L 10 = false := by cases h : L 10; rfl; (have := hS.i9 h; rw [hd9] at this; cases this)
            have hd11 : L 11 = false := by cases h : L 11; rfl; (have := hS.i11 h; rw [hd10] at this; cases this)
            have ho := lit_own X (.string sx)
            rw [hS.szz hL] at ho
            have hK := hK (.slice (some ⟨X.heap.size, 0, none⟩) 1 1) (X.alloc (.cells #[.string sx] 9)) ⟨hS.bel.alloc hS.bel.size _, fun _ => Reg.upd_same _ _ _, fun h => (by rw [Reg.upd_ne _ _ (by decide), hd10] at h; cases h), fun h => (by rw [Reg.upd_ne _ _ (by decide), hd11] at h; cases h), fun h => (by rw [Reg.upd_same] at h; cases h), fun _ _ => ⟨by rw [Reg.upd_same, hS.szz hL], by rw [Reg.upd_same, hS.szz hL]; exact ho⟩, fun h => (by rw [Reg.upd_ne _ _ (by decide), hd9] at h; cases h), fun h => (by rw [Reg.upd_ne _ _ (by decide), hd10] at h; cases h), fun h => (by rw [Reg.upd_ne _ _ (by decide), hd11] at h; cases h)⟩ (fun _ hx => by cases hx)
            clear hk hz hL hd9 hd10 hd11 hS ho
            go_simp
            exact hK
          refine Reg.EachG.plain rfl (fun L u T X hL hz hS hk K hK => ?_) ?_
          · skip
            have g0 : T[0]? = some (.slice (some ⟨g, 0, none⟩) n vc) := hk.old 0 (by kernel_rfl) rfl
            have hK := hK _ X hS (fun _ hx => Option.some.inj hx)
            clear hk hz hL
            go_simp
            exact hK
          refine Reg.EachG.plain rfl (fun L u T X hL hz hS hk K hK => ?_) ?_
          · skip
            have g5 : T[5]? = some (.int .i64 (k : Nat)) := hk.old 5 (by kernel_rfl) rfl
            have hK := hK _ X hS (fun _ hx => Option.some.inj hx)
            clear hk hz hL
            go_simp
            exact hK
          refine Reg.EachG.plain rfl (fun L u T X hL hz hS hk K hK => ?_) ?_
          · skip
            have g39 : T[39]? = some (.slice (some ⟨g, 0, none⟩) n vc) := hk.val 6 39 (by kernel_rfl) (by kernel_rfl) rfl
            have g40 : T[40]? = some (.int .i64 (k : Nat)) := hk.val 7 40 (by kernel_rfl) (by kernel_rfl) rfl
            have hK := hK _ X hS (fun _ hx => Option.some.inj hx)
            clear hk hz hL
            go_simp
            exact hK
          refine Reg.EachG.plain rfl (fun L u T X hL hz hS hk K hK => ?_) ?_
          · skip
            obtain ⟨g38, l38⟩ := hk.any 5 38 (by kernel_rfl) (by kernel_rfl)
            have g41 : T[41]? = some (.slice d2 (n - k) (vc - k)) := hk.val 8 41 (by kernel_rfl) (by kernel_rfl) rfl
            have hd10 : L 10 = false := hz 10 (by kernel_rfl)
            have hd11 : L 11 = false := by cases h : L 11; rfl; (have := hS.i11 h; rw [hd10] at this; cases this)
            obtain ⟨e5, ho5⟩ := hS.lit l38 hL
            rw [e5] at g38 ho5
            obtain ⟨ad, hda, hcc⟩ := HD2.out
            rw [hda] at g41
            refine wp_append_own X (.tmp 38) (.tmp 41) 23 rfl wo.heap.size 9 i1 (.string ⟨#[]⟩) 1 16 Tryd.underlying23 ki kz0 kz1 kz2 rfl (by decide) _ 1 [.string sx] (by simp [Act.eval, g38]) ho5 ad (n - k) (vc - k) C2 (by simp [Act.eval, g41]) (by rw [HL2.out]; omega) (hcc X hS.bel) HONE.out (by unfold maxLen; omega) (by omega) hS.bel.size ?_
            intro v' w' hown' hgr _
            exact hK v' w' ⟨hS.bel.grown hgr hS.bel.size (fun j hj => (ho5.lt j hj).1), fun _ => (by rw [Reg.upd_ne _ _ (by decide)]; exact l38), fun _ => Reg.upd_same _ _ _, fun h => (by rw [Reg.upd_ne _ _ (by decide), hd11] at h; cases h), fun h => (by rw [Reg.upd_ne _ _ (by decide), l38] at h; cases h), fun _ h => (by rw [Reg.upd_same] at h; cases h), fun _ _ => (by rw [Reg.upd_same]; exact (by rw [HL2.out]; exact hown')), fun h => (by rw [Reg.upd_ne _ _ (by decide), hd10] at h; cases h), fun h => (by rw [Reg.upd_ne _ _ (by decide), hd11] at h; cases h)⟩ (fun _ hx => by cases hx)
          refine Reg.EachG.plain rfl (fun L u T X hL hz hS hk K hK => ?_) ?_
          · skip
            have g36 : T[36]? = some (.slice (some ⟨g, 0, none⟩) k k) := hk.val 3 36 (by kernel_rfl) (by kernel_rfl) rfl
            obtain ⟨g42, l42⟩ := hk.any 9 42 (by kernel_rfl) (by kernel_rfl)
            have hd11 : L 11 = false := hz 11 (by kernel_rfl)
            have hmid := hS.mid l42 hL
            obtain ⟨a9, c9, e9⟩ := own_shapeK hmid
            rw [e9] at g42 hmid
            obtain ⟨g9, rfl⟩ : ∃ g9, a9 = some ⟨g9, 0, none⟩ := by
              rcases hmid.2 with ⟨hv, h0⟩ | ⟨g', cap', cur', hv, _⟩
              · omega
              · simp only [Value.slice.injEq] at hv; exact ⟨g', hv.1⟩
            refine wp_grows (.tmp 36) (.tmp 42) 23 rfl 9 i1 (.string ⟨#[]⟩) 1 16 Tryd.underlying23 ki kz0 kz1 kz2 rfl (by decide) ⟨g, 0, none⟩ k k C1 (by simp [Act.eval, g36]) (by rw [HL1.out]; omega) (HCS.out X hS.bel).1 ⟨g9, 0, none⟩ (1 + C2.length) c9 (.string sx :: C2) (by simp [Act.eval, g42]) (by simp; omega) (fun j u hj => hmid.cells (g := g9) rfl j u hj) (by omega) (by have := HL2.out; unfold maxLen; omega) (by have := HL2.out; omega) ?_
            intro v' w' hown' hgr
            exact hK v' w' ⟨hS.bel.grown hgr hS.bel.size (fun j hj => by cases hj), fun h => (by rw [Reg.upd_ne _ _ (by decide)] at h ⊢; exact hS.i5 h), fun _ => (by rw [Reg.upd_ne _ _ (by decide)]; exact l42), fun h => (by rw [Reg.upd_ne _ _ (by decide), hd11] at h; cases h), fun h => (by rw [Reg.upd_ne _ _ (by decide), hS.i5 l42] at h; cases h), fun _ h => (by rw [Reg.upd_ne _ _ (by decide), l42] at h; cases h), fun _ h => (by rw [Reg.upd_same] at h; cases h), fun _ => (by rw [Reg.upd_same]; have h1 := own_low hown' hS.bel.size; rw [← HL1.out] at h1; exact h1), fun h => (by rw [Reg.upd_ne _ _ (by decide), hd11] at h; cases h)⟩ (fun _ hx => by cases hx)
          refine Reg.EachG.plain rfl (fun L u T X hL hz hS hk K hK => ?_) ?_
          · skip
            obtain ⟨g43, l43⟩ := hk.any 10 43 (by kernel_rfl) (by kernel_rfl)
            have hK := hK (u 10) X ⟨hS.bel, hS.i5, hS.i9, fun _ => l43, hS.szz, hS.lit, hS.mid, hS.fin, fun _ => (by rw [Reg.upd_same, Reg.upd_ne _ _ (by decide)])⟩ (fun _ hx => by cases hx)
            obtain ⟨a10, c10, e10⟩ := own_shapeK (hS.fin l43)
            rw [e10] at hK g43
            clear hk hz hL hS
            go_simp
            exact hK
          exact Reg.EachG.nil
        case rsZ =>
          intro L u w9 hL hS hI
          have e0 : u 0 = .slice (some ⟨g, 0, none⟩) n vc := hI 0 (by decide) _ rfl
          have e1 : u 1 = .int .i64 (k : Nat) := hI 1 (by decide) _ rfl
          have e2 : u 2 = .int .i64 (k : Nat) := hI 2 (by decide) _ rfl
          have e3 : u 3 = .slice (some ⟨g, 0, none⟩) k k := hI 3 (by decide) _ rfl
          have e4 : u 4 = .string sx := hI 4 (by decide) _ rfl
          have e6 : u 6 = .slice (some ⟨g, 0, none⟩) n vc := hI 6 (by decide) _ rfl
          have e7 : u 7 = .int .i64 (k : Nat) := hI 7 (by decide) _ rfl
          have e8 : u 8 = .slice d2 (n - k) (vc - k) := hI 8 (by decide) _ rfl
          clear hI
          simp only [Reg.putAll, Act.put, List.setIfInBounds_toArray, List.set_cons_succ, List.set_cons_zero, Nat.zero_add, Nat.reduceAdd, e0, e1, e2, e3, e4, e6, e7, e8]
          clear e0 e1 e2 e3 e4 e6 e7 e8
          have d10 := hL 10 (by decide)
          have d11 := hL 11 (by decide)
          have hfin := hS.fin d10
          rw [← hS.asg d11] at hfin
          have HBX := Lib.hid (below_thn HB.out (Nat.le_refl _) hS.bel)
          have HFN := Lib.hid (own_low hfin (Nat.le_trans hB HB.out.size))
          generalize u 11 = y11 at *
          clear hS hfin d10 d11 hL
          go_wp2
          go_ret
          exact ⟨_, rfl, (by have h1 := HFN.out; rw [← HPM.out.1, ← HPM.out.2] at h1; exact h1), HBX.out⟩
      | none =>
        have h00 : n = 0 ∧ vc = 0 := by
          rcases HO.out.2 with ⟨hv, h0⟩ | ⟨g', cap', cur', hv, _⟩
          · simp only [Value.slice.injEq] at hv; exact ⟨hv.2.1, hv.2.2⟩
          · simp at hv
        obtain ⟨rfl, rfl⟩ := h00
        subst hkn
        have HSP : Hid (L.map nmV = C1 ++ C2) := Lib.hid (by rw [hC1, hC2, ← List.map_append, List.take_append_drop])
        have HPM : Hid ((putL x L).map nmV = C1 ++ .string sx :: C2 ∧ (putL x L).length = C1.length + (1 + C2.length)) := Lib.hid (by
          rw [HPL.out, List.map_append, List.map_cons, hC1, hC2, HSX.out]
          refine ⟨rfl, ?_⟩
          simp
          omega)
        have hl1 : C1.length = 0 := by rw [hC1, List.length_map, List.length_take, ← HN.out]; omega
        have hl2 : C2.length = 0 := by rw [hC2, List.length_map, List.length_drop, ← HN.out]
        have HL1 := Lib.hid hl1
        have HL2 := Lib.hid hl2
        have HONE : Hid (∀ u ∈ C2, u.oneCell' = true) := Lib.hid (by
          rw [hC2]
          intro u hu
          obtain ⟨z, _, rfl⟩ := List.mem_map.1 hu
          rfl)
        clear hC1 hC2 hl1 hl2
        go_wp2_with fail
        refine Reg.wp_region_sto (fun L' u' X => PuI wo (.string sx) C1 C2 (L' 5) (L' 9) (L' 10) (L' 11) (u' 5) (u' 9) (u' 10) (u' 11) X) (fun j => ([some (.slice none 0 0), some (.int .i64 ((0 : Nat) : Int)), some (.int .i64 ((0 : Nat) : Int)), some (.slice none 0 0), some (.string sx), none, some (.slice none 0 0), some (.int .i64 ((0 : Nat) : Int)), some (.slice none 0 0), none, none, none] : List (Option Value)).getD j none) (by kernel_rfl) (by kernel_rfl) (by kernel_rfl) (by kernel_rfl) ?rs0 ?rsE ?rsZ
        case rs0 => exact ⟨(Below.refl _ _).drew, fun h => (by cases h), fun h => (by cases h), fun h => (by cases h), fun _ => rfl, fun h => (by cases h), fun h => (by cases h), fun h => (by cases h), fun h => (by cases h)⟩
        case rsE =>
          refine Reg.EachG.plain rfl (fun L u T X hL hz hS hk K hK => ?_) ?_
          · skip
            have g0 : T[0]? = some (.slice none 0 0) := hk.old 0 (by kernel_rfl) rfl
            have hK := hK _ X hS (fun _ hx => Option.some.inj hx)
            clear hk hz hL
            go_simp
            exact hK
          refine Reg.EachG.plain rfl (fun L u T X hL hz hS hk K hK => ?_) ?_
          · skip
            have g5 : T[5]? = some (.int .i64 ((0 : Nat) : Int)) := hk.old 5 (by kernel_rfl) rfl
            have hK := hK _ X hS (fun _ hx => Option.some.inj hx)
            clear hk hz hL
            go_simp
            exact hK
          refine Reg.EachG.plain rfl (fun L u T X hL hz hS hk K hK => ?_) ?_
          · skip
            have g5 : T[5]? = some (.int .i64 ((0 : Nat) : Int)) := hk.old 5 (by kernel_rfl) rfl
            have hK := hK _ X hS (fun _ hx => Option.some.inj hx)
            clear hk hz hL
            go_simp
            exact hK
          refine Reg.EachG.plain rfl (fun L u T X hL hz hS hk K hK => ?_) ?_
          · skip
            have g33 : T[33]? = some (.slice none 0 0) := hk.val 0 33 (by kernel_rfl) (by kernel_rfl) rfl
            have g34 : T[34]? = some (.int .i64 ((0 : Nat) : Int)) := hk.val 1 34 (by kernel_rfl) (by kernel_rfl) rfl
            have g35 : T[35]? = some (.int .i64 ((0 : Nat) : Int)) := hk.val 2 35 (by kernel_rfl) (by kernel_rfl) rfl
            have hK := hK _ X hS (fun _ hx => Option.some.inj hx)
            clear hk hz hL
            go_simp
            exact hK
          refine Reg.EachG.plain rfl (fun L u T X hL hz hS hk K hK => ?_) ?_
          · skip
            have g1 : T[1]? = some (.string sx) := hk.old 1 (by kernel_rfl) rfl
            have hK := hK _ X hS (fun _ hx => Option.some.inj hx)
            clear hk hz hL
            go_simp
            exact hK
          refine Reg.EachG.plain rfl (fun L u T X hL hz hS hk K hK => ?_) ?_
          · skip
            have g37 : T[37]? = some (.string sx) := hk.val 4 37 (by kernel_rfl) (by kernel_rfl) rfl
            have hd9 : L 9 = false := hz 9 (by kernel_rfl)
            have hd10 : L 10 = false := by cases h : L 10; rfl; (have := hS.i9 h; rw [hd9] at this; cases this)
            have hd11 : L 11 = false := by cases h : L 11; rfl; (have := hS.i11 h; rw [hd10] at this; cases this)
            have ho := lit_own X (.string sx)
            rw [hS.szz hL] at ho
            have hK := hK (.slice (some ⟨X.heap.size, 0, none⟩) 1 1) (X.alloc (.cells #[.string sx] 9)) ⟨hS.bel.alloc hS.bel.size _, fun _ => Reg.upd_same _ _ _, fun h => (by rw [Reg.upd_ne _ _ (by decide), hd10] at h; cases h), fun h => (by rw [Reg.upd_ne _ _ (by decide), hd11] at h; cases h), fun h => (by rw [Reg.upd_same] at h; cases h), fun _ _ => ⟨by rw [Reg.upd_same, hS.szz hL], by rw [Reg.upd_same, hS.szz hL]; exact ho⟩, fun h => (by rw [Reg.upd_ne _ _ (by decide), hd9] at h; cases h), fun h => (by rw [Reg.upd_ne _ _ (by decide), hd10] at h; cases h), fun h => (by rw [Reg.upd_ne _ _ (by decide), hd11] at h; cases h)⟩ (fun _ hx => by cases hx)
            clear hk hz hL hd9 hd10 hd11 hS ho
            go_simp
            exact hK
          refine Reg.EachG.plain rfl (fun L u T X hL hz hS hk K hK => ?_) ?_
          · skip
            have g0 : T[0]? = some (.slice none 0 0) := hk.old 0 (by kernel_rfl) rfl
            have hK := hK _ X hS (fun _ hx => Option.some.inj hx)
            clear hk hz hL
            go_simp
            exact hK
          refine Reg.EachG.plain rfl (fun L u T X hL hz hS hk K hK => ?_) ?_
          · skip
            have g5 : T[5]? = some (.int .i64 ((0 : Nat) : Int)) := hk.old 5 (by kernel_rfl) rfl
            have hK := hK _ X hS (fun _ hx => Option.some.inj hx)
            clear hk hz hL
            go_simp
            exact hK
          refine Reg.EachG.plain rfl (fun L u T X hL hz hS hk K hK => ?_) ?_
          · skip
            have g39 : T[39]? = some (.slice none 0 0) := hk.val 6 39 (by kernel_rfl) (by kernel_rfl) rfl
            have g40 : T[40]? = some (.int .i64 ((0 : Nat) : Int)) := hk.val 7 40 (by kernel_rfl) (by kernel_rfl) rfl
            have hK := hK _ X hS (fun _ hx => Option.some.inj hx)
            clear hk hz hL
            go_simp
            exact hK
          refine Reg.EachG.plain rfl (fun L u T X hL hz hS hk K hK => ?_) ?_
          · skip
            obtain ⟨g38, l38⟩ := hk.any 5 38 (by kernel_rfl) (by kernel_rfl)
            have g41 : T[41]? = some (.slice none 0 0) := hk.val 8 41 (by kernel_rfl) (by kernel_rfl) rfl
            have hd10 : L 10 = false := hz 10 (by kernel_rfl)
            have hd11 : L 11 = false := by cases h : L 11; rfl; (have := hS.i11 h; rw [hd10] at this; cases this)
            obtain ⟨e5, ho5⟩ := hS.lit l38 hL
            rw [e5] at g38 ho5
            have hc2 : C2 = [] := List.eq_nil_of_length_eq_zero HL2.out
            refine wp_own_none (.tmp 38) (.tmp 41) rfl wo.heap.size _ 1 [.string sx] (by simp [Act.eval, g38]) ho5 (by simp [Act.eval, g41]) ?_
            exact hK _ X ⟨hS.bel, fun _ => (by rw [Reg.upd_ne _ _ (by decide)]; exact l38), fun _ => Reg.upd_same _ _ _, fun h => (by rw [Reg.upd_ne _ _ (by decide), hd11] at h; cases h), fun h => (by rw [Reg.upd_ne _ _ (by decide), l38] at h; cases h), fun _ h => (by rw [Reg.upd_same] at h; cases h), fun _ _ => (by rw [Reg.upd_same, hc2]; exact ho5), fun h => (by rw [Reg.upd_ne _ _ (by decide), hd10] at h; cases h), fun h => (by rw [Reg.upd_ne _ _ (by decide), hd11] at h; cases h)⟩ (fun _ hx => by cases hx)
          refine Reg.EachG.plain rfl (fun L u T X hL hz hS hk K hK => ?_) ?_
          · skip
            have g36 : T[36]? = some (.slice none 0 0) := hk.val 3 36 (by kernel_rfl) (by kernel_rfl) rfl
            obtain ⟨g42, l42⟩ := hk.any 9 42 (by kernel_rfl) (by kernel_rfl)
            have hd11 : L 11 = false := hz 11 (by kernel_rfl)
            have hmid := hS.mid l42 hL
            obtain ⟨a9, c9, e9⟩ := own_shapeK hmid
            rw [e9] at g42 hmid
            obtain ⟨g9, rfl⟩ : ∃ g9, a9 = some ⟨g9, 0, none⟩ := by
              rcases hmid.2 with ⟨hv, h0⟩ | ⟨g', cap', cur', hv, _⟩
              · omega
              · simp only [Value.slice.injEq] at hv; exact ⟨g', hv.1⟩
            have hc1 : C1 = [] := List.eq_nil_of_length_eq_zero HL1.out
            refine wp_append_own X (.tmp 36) (.tmp 42) 23 rfl wo.heap.size 9 i1 (.string ⟨#[]⟩) 1 16 Tryd.underlying23 ki kz0 kz1 kz2 rfl (by decide) (.slice none 0 0) 0 [] (by simp [Act.eval, g36]) (World.ownsRow_nil _ _ _ _) ⟨g9, 0, none⟩ (1 + C2.length) c9 (.string sx :: C2) (by simp [Act.eval, g42]) (by simp; omega) (fun j u hj => hmid.cells (g := g9) rfl j u hj) (fun u hu => by rcases List.mem_cons.1 hu with rfl | hu; rfl; exact HONE.out u hu) (by have := HL2.out; unfold maxLen; omega) (by have := HL2.out; omega) hS.bel.size ?_
            intro v' w' hown' hgr _
            exact hK v' w' ⟨hS.bel.grown hgr hS.bel.size (fun j hj => by cases hj), fun h => (by rw [Reg.upd_ne _ _ (by decide)] at h ⊢; exact hS.i5 h), fun _ => (by rw [Reg.upd_ne _ _ (by decide)]; exact l42), fun h => (by rw [Reg.upd_ne _ _ (by decide), hd11] at h; cases h), fun h => (by rw [Reg.upd_ne _ _ (by decide), hS.i5 l42] at h; cases h), fun _ h => (by rw [Reg.upd_ne _ _ (by decide), l42] at h; cases h), fun _ h => (by rw [Reg.upd_same] at h; cases h), fun _ => (by rw [Reg.upd_same, hc1]; exact hown'), fun h => (by rw [Reg.upd_ne _ _ (by decide), hd11] at h; cases h)⟩ (fun _ hx => by cases hx)
          refine Reg.EachG.plain rfl (fun L u T X hL hz hS hk K hK => ?_) ?_
          · skip
            obtain ⟨g43, l43⟩ := hk.any 10 43 (by kernel_rfl) (by kernel_rfl)
            have hK := hK (u 10) X ⟨hS.bel, hS.i5, hS.i9, fun _ => l43, hS.szz, hS.lit, hS.mid, hS.fin, fun _ => (by rw [Reg.upd_same, Reg.upd_ne _ _ (by decide)])⟩ (fun _ hx => by cases hx)
            obtain ⟨a10, c10, e10⟩ := own_shapeK (hS.fin l43)
            rw [e10] at hK g43
            clear hk hz hL hS
            go_simp
            exact hK
          exact Reg.EachG.nil
        case rsZ =>
          intro L u w9 hL hS hI
          have e0 : u 0 = .slice none 0 0 := hI 0 (by decide) _ rfl
          have e1 : u 1 = .int .i64 ((0 : Nat) : Int) := hI 1 (by decide) _ rfl
          have e2 : u 2 = .int .i64 ((0 : Nat) : Int) := hI 2 (by decide) _ rfl
          have e3 : u 3 = .slice none 0 0 := hI 3 (by decide) _ rfl
          have e4 : u 4 = .string sx := hI 4 (by decide) _ rfl
          have e6 : u 6 = .slice none 0 0 := hI 6 (by decide) _ rfl
          have e7 : u 7 = .int .i64 ((0 : Nat) : Int) := hI 7 (by decide) _ rfl
          have e8 : u 8 = .slice none 0 0 := hI 8 (by decide) _ rfl
          clear hI
          simp only [Reg.putAll, Act.put, List.setIfInBounds_toArray, List.set_cons_succ, List.set_cons_zero, Nat.zero_add, Nat.reduceAdd, e0, e1, e2, e3, e4, e6, e7, e8]
          clear e0 e1 e2 e3 e4 e6 e7 e8
          have d10 := hL 10 (by decide)
          have d11 := hL 11 (by decide)
          have hfin := hS.fin d10
          rw [← hS.asg d11] at hfin
          have HBX := Lib.hid (below_thn HB.out (Nat.le_refl _) hS.bel)
          have HFN := Lib.hid (own_low hfin (Nat.le_trans hB HB.out.size))
          generalize u 11 = y11 at *
          clear hS hfin d10 d11 hL
          go_wp2
          go_ret
          exact ⟨_, rfl, (by have h1 := HFN.out; rw [← HPM.out.1, ← HPM.out.2] at h1; exact h1), HBX.out⟩
end Go.Proofs.YtoodpajbefffhaaDoor
