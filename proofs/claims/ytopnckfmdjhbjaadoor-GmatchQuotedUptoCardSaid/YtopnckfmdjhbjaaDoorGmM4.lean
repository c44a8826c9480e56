/- Appends of bytes to a row of one's own; whether a text is open; cuts of a slice. -/
import Derived.Test.YtopnckfmdjhbjaaDoorScOpen
import Derived.Test.YtopnckfmdjhbjaaDoorRows
import Derived.Test.YtopnckfmdjhbjaaDoorGmM3
import Derived.Test.YtopnckfmdjhbjaaDoorSeRng
import Derived.Laws.AppendOwnNone
import Derived.Laws.AppendOwn
import Derived.ArgAppend
/- Slices that came in, by their bulk (the Upto form). -/
namespace Go.Proofs.YtopnckfmdjhbjaaDoor
open Go.RowKit

theorem bulk_one {H : Type} (d : DataW H) : 1 ≤ Rows.uptoBulk d := by
  cases d with
  | lit l => cases l <;> simp [Rows.uptoBulk]
  | nil => simp [Rows.uptoBulk]
  | ptr d => simp [Rows.uptoBulk]
  | slice elems spare => simp [Rows.uptoBulk]
  | agg parts => simp [Rows.uptoBulk]
  | iface t d => simp [Rows.uptoBulk]
  | map entries => simp [Rows.uptoBulk]
  | held h => simp [Rows.uptoBulk]
theorem bulk_len {H : Type} (l : List (DataW H)) : l.length ≤ Rows.uptoBulkAll l := by
  induction l with
  | nil => simp [Rows.uptoBulkAll]
  | cons x r ih => have := bulk_one x; simp only [Rows.uptoBulkAll, List.length_cons]; omega
theorem bulk_slice {H : Type} (elems spare : List (DataW H)) : elems.length ≤ Rows.uptoBulk (.slice elems spare) := by
  have h1 := bulk_len elems
  simp only [Rows.uptoBulk]
  omega

set_option maxRecDepth 100000 in
/-- A slice of bytes that came in: no longer than its bulk. -/
theorem sl_of_b {H : Type} {enc : TypeId × Value → H} {W : World} {base : Nat} {v : Value} {d : DataW H} {ps : List MemPlace}
    (hk : Value.okWide Tryd.prog W .any base 22 v) (h : DataW.Trod enc Tryd.prog W 0 (fun _ => true) true 22 v d ps) :
    ∃ l, Sl W v l ∧ l.length ≤ Rows.uptoBulk d := by
  obtain ⟨a0, len, cap, rfl⟩ := WideShapes.okWide_slice Tryd.underlying22 hk
  obtain ⟨fuel, hf⟩ := h
  by_cases hl0 : len = 0
  · subst hl0; exact ⟨[], ⟨fun i => by simp, by simp, Or.inl ⟨rfl, a0, cap, rfl⟩⟩, by simp⟩
  rcases ChangeShapes.open_ints Tryd.underlying22 Tryd.underlying5 (by kernel_rfl) hf with ⟨hcs, _⟩ | ⟨a, len', cap', zs, hcs, _, hl, hm, hzl, hx, hcell, hwf⟩
  · simp [Value.cells] at hcs
    exact absurd hcs.2.1 hl0
  · simp [Value.cells] at hcs
    obtain ⟨rfl, rfl, rfl⟩ := hcs
    simp only [if_true] at hzl
    obtain ⟨b, o, spot⟩ := a
    have hspot : spot = none := by simpa [Addr.add] using World.cell?_spot (hcell 0 (by omega))
    subst hspot
    have hlt : (zs.take len).length = len := by simp; omega
    have hg : ∀ i, i < len → (zs.take len).getD i 0 = zs.getD i 0 := fun i hi => by simp [List.getD, hi]
    unfold maxLen at hm
    refine ⟨zs.take len, ⟨fun i => ?_, by omega, Or.inr ⟨b, o, cap, by rw [hlt], by omega, by omega, fun i hi => ?_⟩⟩, ?_⟩
    · by_cases hi : i < len
      · rw [hg i hi]
        have : zs.getD i 0 ∈ zs := by
          rw [List.getD, List.getElem?_eq_getElem (by omega)]
          exact List.getElem_mem _
        exact byte_wf (hwf _ this)
      · rw [List.getD, List.getElem?_eq_none (by omega)]; simp
    · rw [hlt] at hi
      have := hcell i (by omega)
      rw [WideShapes.add_plain] at this
      rw [hg i hi]
      exact this
    · simp only [Prod.mk.injEq] at hx
      rw [hx.1]
      refine Nat.le_trans ?_ (bulk_slice _ _)
      simp [ChangeShapes.lits]

set_option maxRecDepth 100000 in
/-- A nil slice that came in has no length and no capacity. -/
theorem sl_nil2 {H : Type} {enc : TypeId × Value → H} {W : World} {base : Nat} {v : Value} {d : DataW H} {ps : List MemPlace}
    (hk : Value.okWide Tryd.prog W .any base 22 v) (h : DataW.Trod enc Tryd.prog W 0 (fun _ => true) true 22 v d ps) (n cap : Nat) (e : v = .slice none n cap) : n = 0 ∧ cap = 0 := by
  subst e
  obtain ⟨fuel, hf⟩ := h
  rcases ChangeShapes.open_ints Tryd.underlying22 Tryd.underlying5 (by kernel_rfl) hf with ⟨hcs, _⟩ | ⟨a, len', cap', zs, hcs, _⟩
  · simp [Value.cells] at hcs
    exact hcs
  · simp [Value.cells] at hcs

end Go.Proofs.YtopnckfmdjhbjaaDoor
namespace Go.Proofs.YtopnckfmdjhbjaaDoor
open Go.RowKit

theorem app_bytes {w : World} {ops : Array Oper} {rest : List Oper} {o : Oper} {a : Act} {Q : Exit → Act → World → Prop} (hgd : o.guard = none) (s x : Operand)
    (ho : o.op = .call { callee := .builtin .append, args := #[s, x], argTypes := #[22, 22] })
    (base : Nat) (v : Value) (n : Nat) (xs : List Value) (hs : a.eval s = v) (hown : w.ownsRow base 5 1 v n xs) (vx : Value) (l : List Int) (hx : a.eval x = vx) (hsl : Sl w vx l) (hnil : ∀ n c, vx = .slice none n c → n = 0 ∧ c = 0)
    (h63 : n + l.length ≤ 1048576) (hbase : base ≤ w.heap.size)
    (h : ∀ v' w', w'.ownsRow base 5 1 v' (n + l.length) (xs ++ l.map (Value.int .u8)) → Below base w w' → wpList Tryd.prog ops Q rest (a.put o.dst v') w') : wpList Tryd.prog ops Q (o :: rest) a w := by
  obtain ⟨i0, hi, hz0, hz1, hz2⟩ := info_parts byte_row
  have key : ∀ ad c, vx = .slice (some ad) l.length c → wpList Tryd.prog ops Q (o :: rest) a w := fun ad c e => by
    subst e
    exact wpList_append_own w hgd s x _ ho base 5 i0 (.int .u8 0) 1 1 Tryd.underlying22 hi hz0 hz1 hz2 rfl (by decide) v n xs hs hown ad l.length c (l.map (Value.int .u8)) hx (by simp) (newsB hsl).2 (oneB l) (by unfold maxLen; omega) (by omega) hbase
      (fun v' w' h1 h2 _ => h v' w' h1 ((Below.refl base w).grown h2 hbase (fun k hk => (hown.lt k hk).1)))
  rcases hsl.2.2 with ⟨rfl, ad, cap, e⟩ | ⟨b, of, cap, e, _, _, _⟩
  · cases ad with
    | some ad => exact key ad cap e
    | none =>
      obtain ⟨_, hc⟩ := hnil 0 cap e
      subst hc
      exact wpList_append_own_none hgd s x _ ho base 5 i0 1 Tryd.underlying22 hi v n xs hs hown (by rw [hx, e]) (h v w (by simpa using hown) (Below.refl _ _))
  · exact key _ cap e

/-- Where the text a is open to its end: so far as it was read. -/
theorem openJ_fuel (a : List Int) : ∀ n m k, a.length - k < n → a.length - k < m → openJ a n k = openJ a m k
  | 0, _, _, h, _ => absurd h (by omega)
  | _ + 1, 0, _, _, h => absurd h (by omega)
  | n + 1, m + 1, k, h1, h2 => by
    unfold openJ
    by_cases hk : k < a.length
    · rw [if_pos hk, if_pos hk]
      split
      · rfl
      split
      · split
        · rfl
        · exact openJ_fuel a n m _ (by omega) (by omega)
      · exact openJ_fuel a n m _ (by omega) (by omega)
    · rw [if_neg hk, if_neg hk]
def JJ (a : List Int) (k : Nat) : Prop := openJ a (a.length + 1) k = true → openJ a (a.length + 1) 0 = true
theorem JJ.one {a : List Int} {k : Nat} (h : JJ a k) (hk : k < a.length) (h91 : ¬ a.getD k 0 = 91) (h92 : ¬ a.getD k 0 = 92) : JJ a (k + 1) := fun h1 => h (by
  rw [openJ, if_pos hk, if_neg h91, if_neg h92, openJ_fuel a a.length (a.length + 1) (k + 1) (by omega) (by omega)]
  exact h1)
theorem JJ.two {a : List Int} {k : Nat} (h : JJ a k) (hk : k < a.length) (h92 : a.getD k 0 = 92) (hk1 : ¬ k + 1 = a.length) : JJ a (k + 2) := fun h1 => h (by
  rw [openJ, if_pos hk, if_neg (by rw [h92]; decide), if_pos h92, if_neg hk1, openJ_fuel a a.length (a.length + 1) (k + 2) (by omega) (by omega)]
  exact h1)
theorem JJ.all {a : List Int} (h : JJ a a.length) : openJ a (a.length + 1) 0 = true := h (by rw [openJ, if_neg (Nat.lt_irrefl _)])
/-- A slice from a place on, a slice up to a place. -/
def cutA (a : Option Addr) (cap u : Nat) : Option Addr := if cap = u then a else Option.map (fun x => x.add u) a
theorem add_zeroA (x : Addr) : x.add 0 = x := by cases x; simp [Addr.add]
theorem cutA_zero (a : Option Addr) (cap : Nat) : (if cap = 0 then a else Option.map (fun x => x.add 0) a) = a := by
  by_cases h : cap = 0
  · rw [if_pos h]
  · rw [if_neg h]; cases a <;> simp [add_zeroA]
theorem Sl.from {w : World} {a : Option Addr} {cap : Nat} {s : List Int} (h : Sl w (.slice a s.length cap) s) (u : Nat) (hu : u ≤ s.length) : Sl w (.slice (cutA a cap u) (s.length - u) (cap - u)) (s.drop u) := by
  rcases h.2.2 with ⟨rfl, a', cap', he⟩ | ⟨b, o, cap', he, hlc, hcm, hrow⟩
  · have hu0 : u = 0 := by simpa using hu
    subst hu0
    exact ⟨h.1, h.2.1, Or.inl ⟨rfl, _, _, rfl⟩⟩
  · simp only [Value.slice.injEq] at he
    obtain ⟨rfl, _, rfl⟩ := he
    by_cases hc : cap = u
    · have hd : s.drop u = [] := List.drop_of_length_le (by omega)
      rw [hd]
      exact ⟨fun i => by simp, by simp, Or.inl ⟨rfl, cutA (some ⟨b, o, none⟩) cap u, cap - u, by rw [show s.length - u = 0 by omega]⟩⟩
    · have e : cutA (some ⟨b, o, none⟩) cap u = some ⟨b, o + u, none⟩ := by unfold cutA; rw [if_neg hc]; simp [WideShapes.add_plain]
      rw [e]
      exact Sl.drop h.1 h.2.1 hlc hcm hrow u hu
theorem Sl.upto {w : World} {a : Option Addr} {cap : Nat} {s : List Int} (h : Sl w (.slice a s.length cap) s) (x : Nat) (hx : x ≤ s.length) : Sl w (.slice a x cap) (s.take x) := by
  rcases h.2.2 with ⟨rfl, a', cap', he⟩ | ⟨b, o, cap', he, hlc, hcm, hrow⟩
  · have hx0 : x = 0 := by simpa using hx
    subst hx0
    exact h
  · simp only [Value.slice.injEq] at he
    obtain ⟨rfl, _, rfl⟩ := he
    have hl : (s.take x).length = x := by simp; omega
    refine ⟨fun i => ?_, by omega, Or.inr ⟨b, o, cap, by rw [hl], by omega, hcm, fun i hi => ?_⟩⟩
    · by_cases hi : i < x
      · have := h.1 i
        rwa [show (s.take x).getD i 0 = s.getD i 0 by simp [List.getD, hi]]
      · rw [List.getD, List.getElem?_eq_none (by omega)]; simp
    · rw [hl] at hi
      rw [show (s.take x).getD i 0 = s.getD i 0 by simp [List.getD, hi]]
      exact hrow i (by omega)
theorem Sl.cap {w : World} {a : Option Addr} {cap : Nat} {s : List Int} (h : Sl w (.slice a s.length cap) s) : s.length ≤ cap := by
  rcases h.2.2 with ⟨rfl, a', cap', he⟩ | ⟨b, o, cap', he, hlc, hcm, hrow⟩
  · simp
  · simp only [Value.slice.injEq] at he
    rw [he.2.2]; exact hlc
theorem Sl.lit {w : World} {v : Value} {s : List Int} (h : Sl w v s) : ∃ a cap, v = .slice a s.length cap := by
  rcases h.2.2 with ⟨rfl, a, cap, rfl⟩ | ⟨b, o, cap, rfl, _⟩
  · exact ⟨a, cap, rfl⟩
  · exact ⟨_, cap, rfl⟩


/-- A row of bytes that may be appended to: one's own, or a full one. -/
def Gr (w : World) (base : Nat) (v : Value) (L : List Int) : Prop :=
  w.ownsRow base 5 1 v L.length (L.map (Value.int .u8)) ∨ ∃ g, v = .slice (some ⟨g, 0, none⟩) L.length L.length ∧ ∀ j u, (L.map (Value.int .u8))[j]? = some u → w.cell? ((⟨g, 0, none⟩ : Addr).add j) = some u
theorem Gr.alloc {w : World} {base : Nat} {v : Value} {L : List Int} (h : Gr w base v L) (o : Obj) : Gr (w.alloc o) base v L := by
  rcases h with h | ⟨g, rfl, hc⟩
  · exact Or.inl (h.alloc o)
  · exact Or.inr ⟨g, rfl, fun j u hj => Lib.cell?_alloc_some o (hc j u hj)⟩
theorem Gr.sl {w : World} {base : Nat} {v : Value} {L : List Int} (h : Gr w base v L) (hy : Byt L) (hl : L.length ≤ 9223372036854775807) : Sl w v L := by
  rcases h with h | ⟨g, rfl, hc⟩
  · exact slOwnedM h hy hl
  · refine ⟨hy, hl, Or.inr ⟨g, 0, L.length, rfl, Nat.le_refl _, hl, fun i hi => ?_⟩⟩
    have := hc i (.int .u8 (L.getD i 0)) (by rw [List.getElem?_map, List.getElem?_eq_getElem hi, List.getD_eq_getElem?_getD, List.getElem?_eq_getElem hi]; rfl)
    rwa [WideShapes.add_plain] at this
theorem Gr.lit (X : World) (c : Int) (z : Nat × Nat) : Gr (X.alloc (.cells #[.int .u8 c] 5 z)) X.heap.size (.slice (some ⟨X.heap.size, 0, none⟩) 1 1) [c] := by
  refine Or.inr ⟨X.heap.size, rfl, fun j u hj => ?_⟩
  have hb := alloc_last X (.cells #[.int .u8 c] 5 z)
  match j, hj with
  | 0, hj =>
    simp at hj
    subst hj
    rw [WideShapes.add_plain]
    exact cell_of_row _ _ _ _ _ _ hb
theorem app_gr {w : World} {ops : Array Oper} {rest : List Oper} {o : Oper} {a : Act} {Q : Exit → Act → World → Prop} (hgd : o.guard = none) (s x : Operand)
    (ho : o.op = .call { callee := .builtin .append, args := #[s, x], argTypes := #[22, 22] })
    (base : Nat) (v : Value) (L : List Int) (hs : a.eval s = v) (hown : Gr w base v L) (vx : Value) (l : List Int) (hx : a.eval x = vx) (hsl : Sl w vx l) (hnil : ∀ n c, vx = .slice none n c → n = 0 ∧ c = 0)
    (h63 : L.length + l.length ≤ 1048576) (hbase : base ≤ w.heap.size)
    (h : ∀ v' w', Gr w' base v' (L ++ l) → Below base w w' → wpList Tryd.prog ops Q rest (a.put o.dst v') w') : wpList Tryd.prog ops Q (o :: rest) a w := by
  rcases hown with hown | ⟨g, rfl, hc⟩
  · exact app_bytes hgd s x ho base v L.length _ hs hown vx l hx hsl hnil h63 hbase (fun v' w' h1 h2 => h v' w' (Or.inl (by rw [List.length_append, List.map_append]; exact h1)) h2)
  · obtain ⟨i0, hi, hz0, hz1, hz2⟩ := info_parts byte_row
    have grows : ∀ ad c, vx = .slice (some ad) l.length c → 0 < l.length → wpList Tryd.prog ops Q (o :: rest) a w := fun ad c e hl => by
      subst e
      exact wpList_append_grows w hgd s x _ ho 5 i0 (.int .u8 0) 1 1 Tryd.underlying22 hi hz0 hz1 hz2 rfl (by decide) (some ⟨g, 0, none⟩) L.length L.length (L.map (Value.int .u8)) hs (fun h => by cases h) (by simp) (fun b hb j u hj => by obtain rfl := Option.some.inj hb; exact hc j u hj) ad l.length c (l.map (Value.int .u8)) hx (by simp) (newsB hsl).2 (oneB l) (by omega) (by unfold maxLen; omega) (by omega)
        (fun v' w' h1 h2 => h v' w' (Or.inl (by rw [List.length_append, List.map_append]; exact own_mono h1 hbase)) ((Below.refl base w).grown h2 hbase (fun k hk => by cases hk)))
    have same : l = [] → (∀ ty, (Builtin.append_ #[22, 22] ty #[.slice (some ⟨g, 0, none⟩) L.length L.length, vx]).run Tryd.prog w = .ok (.slice (some ⟨g, 0, none⟩) L.length L.length) w) → wpList Tryd.prog ops Q (o :: rest) a w := fun hl hrun => by
      subst hl
      refine wpList_step fun K hK => ?_
      rw [if_pos (by rw [Region.wanted, hgd])]
      unfold Oper.wp
      simp [execOp, ho, resolve, invoke, builtin, hs, hx, hrun, Result.andThen]
      exact hK _ _ (h _ w (Or.inr ⟨g, by simp, by simpa using hc⟩) (Below.refl _ _))
    have ht := Tryd.underlying22
    rcases hsl.2.2 with ⟨hl, ad, cap, e⟩ | ⟨b, of, cap, e, _, _, _⟩
    · cases ad with
      | some ad =>
        refine same hl fun ty => ?_
        rw [e]
        simp [Builtin.append_, run_underlying ht, sizeOf, typeInfo, hi, Builtin.lenOf, Builtin.firstCells, storeCells, loadCells, loadCellsFrom]
      | none =>
        obtain ⟨_, hcp⟩ := hnil 0 cap e
        subst hcp
        refine same hl fun ty => ?_
        rw [e]
        simp [Builtin.append_, run_underlying ht, sizeOf, typeInfo, hi, Builtin.lenOf, Builtin.firstCells, storeCells, loadCells]
    · by_cases hl : l = []
      · refine same hl fun ty => ?_
        subst hl
        rw [e]
        simp [Builtin.append_, run_underlying ht, sizeOf, typeInfo, hi, Builtin.lenOf, Builtin.firstCells, storeCells, loadCells, loadCellsFrom]
      · exact grows _ cap e (List.length_pos_iff.2 hl)

def OpenPost (la : List Int) (w : World) (e : Ending) (w' : World) : Prop := ∃ r, e = .returned (.bool r) ∧ w' = w ∧ (r = false → openJ la (la.length + 1) 0 = true)
set_option maxRecDepth 100000 in
set_option maxHeartbeats 8000000 in
/-- open: false only where the text is open to its end. -/
theorem open7_any (aa : Option Addr) (ac : Nat) (la : List Int) (w : World) (hs : Sl w (.slice aa la.length ac) la) :
    Calls Tryd.prog 27 #[.slice aa la.length ac] w (OpenPost la w) := by
  have HROW : Hid (∀ k, k < la.length → ∃ b o, aa = some ⟨b, o, none⟩ ∧ w.cell? ⟨b, o + k, none⟩ = some (.int .u8 (la.getD k 0))) := Lib.hid (fun k hk => by
    rcases hs.2.2 with ⟨rfl, _⟩ | ⟨x, o, cap, e, _, _, hr⟩
    · simp at hk
    · simp only [Value.slice.injEq] at e
      exact ⟨x, o, e.1, hr k hk⟩)
  have hlb : la.length ≤ 9223372036854775807 := hs.2.1
  clear hs
  obtain ⟨n, hn⟩ : ∃ n, n = la.length := ⟨_, rfl⟩
  have HN := Lib.hid hn
  rw [← hn] at hlb ⊢
  clear hn
  go_enter Tryd.func27, Tryd.ntmps27
  go_wp2_with fail
  go_loopw [3] (fun i X => ∃ k, i = .int .i64 (k : Nat) ∧ k ≤ n ∧ Hid (JJ la k) ∧ X = w) (fun i _ => n - (intOf i).toNat)
  case atStart => exact ⟨0, rfl, Nat.zero_le _, Lib.hid (fun h => h), rfl⟩
  case round =>
    obtain ⟨k, rfl, hk, HJ, hX⟩ := hrel
    have hX' := hX.symm
    clear hX
    subst hX'
    by_cases hlt : k < n
    · have hltL : k < la.length := by rw [← HN.out]; exact hlt
      obtain ⟨b, o, rfl, hc⟩ := HROW.out k hltL
      have hkI : (k : Int) < (n : Int) := by omega
      have HJ1 := Lib.hid (fun h91 h92 => HJ.out.one hltL h91 h92)
      have HJ2 := Lib.hid (fun h92 hk1 => HJ.out.two hltL h92 hk1)
      generalize la.getD k 0 = c at hc HJ1 HJ2
      by_cases h91 : c = 91
      · subst h91
        go_wp2_with fail
        go_ret
        exact ⟨true, rfl, rfl, fun h => by cases h⟩
      · have h91b : (c == 91) = false := beq_eq_false_iff_ne.2 h91
        by_cases h92 : c = 92
        · subst h92
          by_cases hk1 : k + 1 = n
          · have hk1b : ((k : Int) + 1 == (n : Int)) = true := by simp; omega
            go_wp2_with fail
            go_ret
            exact ⟨true, rfl, rfl, fun h => by cases h⟩
          · have hk1b : ((k : Int) + 1 == (n : Int)) = false := by simp; omega
            go_wp2_with fail
            go_roundw
            case rel => exact ⟨k + 2, by go_num, by omega, Lib.hid (HJ2.out rfl (by rw [← HN.out]; exact hk1)), trivial⟩
            case measure => simp [intOf]; omega
        · have h92b : (c == 92) = false := beq_eq_false_iff_ne.2 h92
          go_wp2_with fail
          go_roundw
          case rel => exact ⟨k + 1, by go_num, by omega, Lib.hid (HJ1.out h91 h92), trivial⟩
          case measure => simp [intOf]; omega
    · have hke : k = n := by omega
      have HOP : Hid (openJ la (la.length + 1) 0 = true) := Lib.hid (by
        have := HJ.out
        rw [hke, HN.out] at this
        exact this.all)
      have hkI : ¬ (k : Int) < (n : Int) := by omega
      go_wp2_with fail
      go_ret
      exact ⟨false, rfl, rfl, fun _ => HOP.out⟩
end Go.Proofs.YtopnckfmdjhbjaaDoor
