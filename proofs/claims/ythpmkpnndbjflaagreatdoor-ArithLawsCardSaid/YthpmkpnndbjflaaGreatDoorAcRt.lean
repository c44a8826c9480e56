/- The reference's variables: a row with one set, without one (gen_acrt.py). -/
import Derived.Test.YthpmkpnndbjflaaGreatDoorKVa
import Derived.Sort.Walk0
import Derived.Maps.AppendAt
namespace Go.Proofs.YthpmkpnndbjflaaGreatDoor
open Go.RowKit

theorem own_belowV {X X' : World} {B : Nat} {v : Value} {n : Nat} {xs : List Value} (h : X.ownsRow B 74 2 v n xs) (hb : Below X.heap.size X X') : X'.ownsRow B 74 2 v n xs :=
  h.kept (row := none) ⟨hb.os, hb.tape, hb.output, hb.size, fun k hk _ => hb.block k hk⟩ (by
    rcases h.2 with ⟨rfl, _⟩ | ⟨g, cap, cur, rfl, _⟩
    · exact Or.inl rfl
    · exact Or.inr (fun e => by cases e))
theorem newsV {X : World} {b : Nat} {p : ByteArray × ByteArray} (h : X.heap[b]? = some (.cells #[.string p.1, .string p.2] 74 (0, 0))) : ∀ j u, (cVr p)[j]? = some u → X.cell? ((⟨b, 0, none⟩ : Addr).add j) = some u := fun j u hj => by
  rw [WideShapes.add_plain, Nat.zero_add, Lib.cell_of_heap h]
  simpa [cVr] using hj
theorem drop_consV {l : Vl} {k : Nat} {p : ByteArray × ByteArray} (h : l[k]? = some p) : l.drop k = p :: l.drop (k + 1) := by
  have hk := (List.getElem?_eq_some_iff.1 h).1
  rw [List.drop_eq_getElem_cons hk]
  congr 1
  exact (List.getElem?_eq_some_iff.1 h).2
theorem ownV_row {W : World} {B m : Nat} {v : Value} {xs : List Value} (h : W.ownsRow B 74 2 v m xs) (hm : 0 < m) : ∃ b c, v = .slice (some ⟨b, 0, none⟩) m c := by
  rcases h.2 with ⟨_, h0⟩ | ⟨g, cap, cur, e, _⟩
  · omega
  · exact ⟨g, cap, e⟩
/-- An append of one variable to a row of one's own. -/
theorem app_var {ops : Array Oper} {rest : List Oper} {o : Oper} {a : Act} {Q : Exit → Act → World → Prop} {w : World} (hgd : o.guard = none) (s x : Operand) (t : TypeId) (ht : Tryz.prog.underlying t = some (.slice 74))
    (ho : o.op = .call { callee := .builtin .append, args := #[s, x], argTypes := #[t, t] }) (B : Nat) (v : Value) (L : Vl) (p : ByteArray × ByteArray) (hs : a.eval s = v) (hown : w.ownsRow B 74 2 v L.length (rowV L)) (b : Nat) (hx : a.eval x = .slice (some ⟨b, 0, none⟩) 1 1)
    (hb : w.heap[b]? = some (.cells #[.string p.1, .string p.2] 74 (0, 0))) (hl : L.length ≤ 1000003) (hB : B ≤ w.heap.size)
    (h : ∀ b' c' w', w'.ownsRow B 74 2 (.slice (some ⟨b', 0, none⟩) (L.length + 1) c') (L ++ [p]).length (rowV (L ++ [p])) → w.grownBy w' v.ownBlock → (v.ownBlock = some b' ∨ b' = w.heap.size) → wpList Tryz.prog ops Q rest (a.put o.dst (.slice (some ⟨b', 0, none⟩) (L.length + 1) c')) w') :
    wpList Tryz.prog ops Q (o :: rest) a w := by
  obtain ⟨i0, z0, hi0, hz0, hz1, hz2, hz3⟩ := var_parts
  refine wpList_append_own_at w hgd s x t ho B 74 i0 z0 2 32 ht hi0 hz0 hz1 hz2 hz3 (by decide) v L.length (rowV L) hs hown ⟨b, 0, none⟩ 1 1 (cVr p) hx rfl (newsV hb) (cVr_one p) (by unfold maxLen; omega) (by omega) hB ?_
  intro v' w' ho' hg _ hat
  obtain ⟨b', c', rfl⟩ := ownV_row ho' (by omega)
  refine h b' c' w' ?_ hg ?_
  · rw [List.length_append, List.length_singleton, rowV_app]
    simpa [rowV] using ho'
  · rcases hat with e | e
    · exact Or.inl e.symm
    · exact Or.inr (by simpa [Value.ownBlock] using e)
theorem belowV_grown {B : Nat} {w0 w w' : World} {v : Value} {n : Nat} {xs : List Value} (h : Below B w0 w) (ho : w.ownsRow B 74 2 v n xs) (hg : w.grownBy w' v.ownBlock) (hB : B ≤ w.heap.size) : Below B w0 w' := h.grown hg hB (fun k e => (ho.lt k e).1)
theorem stayV {W W' : World} {v : Value} {b : Nat} {o : Obj} (hg : W.grownBy W' v.ownBlock) (hb : W.heap[b]? = some o) (hne : ∀ g, v.ownBlock = some g → b ≠ g) : W'.heap[b]? = some o :=
  (hg.block b (lt_blkA hb) (fun e => hne b e.symm rfl)).trans hb

theorem tl_eq {a b : ByteArray} (h : a = b) : (a.toList == b.toList) = true := by rw [h]; exact beq_self_eq_true _
theorem tl_ne {a b : ByteArray} (h : ¬ a = b) : (a.toList == b.toList) = false := by
  rw [beq_eq_false_iff_ne, Lib.toList_data, Lib.toList_data]
  exact fun e => h (nmL_inj e)

set_option maxRecDepth 100000 in
set_option maxHeartbeats 8000000 in
theorem ref_set (va0 : Value) (l : Vl) (nm val : ByteArray) (w : World) (hv : VS w va0 l) (hl : l.length ≤ 1000000) :
    Calls Tryz.prog 15 #[va0, .string nm, .string val] w fun e w' => ∃ v, e = .returned v ∧ w'.ownsRow w.heap.size 74 2 v (setV nm val l).length (rowV (setV nm val l)) ∧ Below w.heap.size w w' := by
  obtain ⟨ad, ac, rfl⟩ : ∃ ad ac, va0 = .slice ad l.length ac := by
    rcases hv with ⟨rfl, x, y, h⟩ | ⟨x, y, z, h, _⟩
    · exact ⟨x, y, h⟩
    · exact ⟨_, z, h⟩
  have HA := Lib.hid hv
  obtain ⟨n, hn⟩ : ∃ n, n = l.length := ⟨_, rfl⟩
  have HN := Lib.hid hn
  rw [← hn] at hl
  rw [← hn]
  clear hv hn
  go_enter Tryz.func15, Tryz.ntmps15
  go_wp2_with fail
  go_loopw [7, 8, 13] (fun s7 s8 s13 X => ∃ (k : Nat) (d : Bool) (done : Vl) (va : Option Addr) (vc : Nat), s7 = .slice va done.length vc ∧ s8 = .bool d ∧ s13 = .int .i64 (k : Nat) ∧ k ≤ n ∧ setG nm val false l = done ++ setG nm val d (l.drop k) ∧ done.length ≤ k + 1 ∧ (d = false → done.length ≤ k) ∧ X.ownsRow w.heap.size 74 2 (.slice va done.length vc) done.length (rowV done) ∧ Below w.heap.size w X) (fun _ _ s13 _ => n - (intOf s13).toNat)
  case atStart => exact ⟨0, false, [], none, 0, rfl, rfl, rfl, Nat.zero_le _, by simp, by simp, by simp, World.ownsRow_nil _ _ _ _, Below.refl _ _⟩
  case round =>
    obtain ⟨k, d, done, va, vc, rfl, rfl, rfl, hk, heq, hdl, hdl0, hrow, hbl⟩ := hrel
    have HBL := Lib.hid hbl
    have HROW := Lib.hid hrow
    have HEQ := Lib.hid heq
    have HD1 := Lib.hid hdl
    have HDL0 := Lib.hid hdl0
    have HDL : Hid (done.length ≤ 1000001) := Lib.hid (by omega)
    clear hbl hrow heq hdl hdl0
    by_cases hlt : k < n
    · have hltA : k < l.length := by rw [← HN.out]; exact hlt
      obtain ⟨⟨pn, pv⟩, hp⟩ : ∃ x, l[k]? = some x := ⟨l[k], List.getElem?_eq_getElem hltA⟩
      obtain ⟨g, o, cap, hsv, hg, hc⟩ : ∃ g o cap, (.slice ad l.length ac : Value) = .slice (some ⟨g, o, none⟩) l.length cap ∧ g < wr.heap.size ∧ ∀ (j : Nat) (p : ByteArray × ByteArray), l[j]? = some p → wr.cell? ⟨g, o + j * 2, none⟩ = some (.string p.1) ∧ wr.cell? ⟨g, o + j * 2 + 1, none⟩ = some (.string p.2) := by
        rcases HA.out.below HBL.out with ⟨h0, _⟩ | h
        · rw [h0] at hltA; simp at hltA
        · exact h
      simp only [Value.slice.injEq] at hsv
      obtain ⟨rfl, hx1, hx2⟩ := hsv
      clear hx1 hx2
      obtain ⟨p0, p1⟩ := hc k _ hp
      have hkI : (k : Int) < (n : Int) := by omega
      dsimp only at p0 p1
      have HDC := Lib.hid (drop_consV hp)
      clear hc hp hg
      go_upto_region 6 with fail
      obtain ⟨W3, hW3⟩ : ∃ W3, W3 = wr.alloc (.cells #[.string pn, .string pv] 74) := ⟨_, rfl⟩
      have hh6 : W3.heap[wr.heap.size]? = some (.cells #[.string pn, .string pv] 74 (0, 0)) := by rw [hW3]; exact last_A wr _
      have hb3 : Below wr.heap.size wr W3 := by rw [hW3]; exact (Below.refl _ _).alloc (Nat.le_refl _) _
      rw [← hW3]
      have HROW3 := Lib.hid (own_belowV HROW.out hb3)
      have HNE3 : Hid (∀ g, (Value.slice va done.length vc).ownBlock = some g → wr.heap.size ≠ g) := Lib.hid (fun g hg => by have := (HROW.out.lt g hg).2; omega)
      have HB3 := Lib.hid (HBL.out.trans (hb3.mono HBL.out.size))
      obtain ⟨q0, q1⟩ : W3.cell? ⟨wr.heap.size, 0, none⟩ = some (.string pn) ∧ W3.cell? ⟨wr.heap.size, 1, none⟩ = some (.string pv) := ⟨(Lib.cell_of_heap hh6 0).trans rfl, (Lib.cell_of_heap hh6 1).trans rfl⟩
      have qz := lt_blkA hh6
      have HH6 := Lib.hid hh6
      generalize wr.heap.size = h6 at *
      clear hb3 hh6 hW3 p0 p1 HROW HBL
      by_cases hle : nmL pn < nmL nm
      · have hge : Op.bytesLess pn.toList nm.toList = true := by rw [bytesLess_eq, Lib.toList_data, Lib.toList_data]; exact decide_eq_true hle
        have HLE := Lib.hid hle
        clear hle
        have hsame : ¬ pn = nm := fun e => nl_irrefl _ (e ▸ HLE.out)
        have HSA := Lib.hid hsame
        have hq := tl_ne hsame
        clear hsame
        cases d with
        | true =>
          have EQF0 : setG nm val false l = (done ++ [(pn, pv)]) ++ setG nm val true (l.drop (k + 1)) := by
            rw [HEQ.out, HDC.out, setG]
            simp [HSA.out]
          have EQF := Lib.hid EQF0
          clear EQF0

          go_wp2_with (at_builtin; refine app_var rfl (.tmp 35) (.tmp 37) 24 Tryz.underlying24 rfl w.heap.size (.slice va done.length vc) done (pn, pv) rfl (own_belowV HROW3.out ((Below.refl _ _).alloc (Nat.le_refl _) _)) W3.heap.size rfl (last_A W3 _) (by have := HDL.out; (try simp only [List.length_append, List.length_cons, List.length_nil]); omega) (by have := HB3.out.size; simp only [World.size_alloc]; omega) ?_; intro b7 c7 V7 hown7 hgr7 hat7)
          have HROW7 := Lib.hid hown7
          have HB7 := Lib.hid (belowV_grown (HB3.out.alloc HB3.out.size (.cells #[.string (pn, pv).1, .string (pn, pv).2] 74)) (own_belowV HROW3.out ((Below.refl _ _).alloc (Nat.le_refl _) _)) hgr7 (by have := HB3.out.size; simp only [World.size_alloc]; omega))
          clear hown7 hgr7 hat7

          go_wp2_with fail
          go_roundw
          case rel => exact ⟨k + 1, true, done ++ [(pn, pv)], some ⟨b7, 0, none⟩, c7, by simp, rfl, by go_num, by omega, EQF.out, by have := HD1.out; (try simp only [List.length_append, List.length_cons, List.length_nil]); omega, by simp, by simpa using HROW7.out, HB7.out⟩
          case measure => simp [intOf]; omega
        | false =>
          have EQF0 : setG nm val false l = (done ++ [(pn, pv)]) ++ setG nm val false (l.drop (k + 1)) := by
            rw [HEQ.out, HDC.out, setG]
            simp [HLE.out, HSA.out]
          have EQF := Lib.hid EQF0
          clear EQF0

          go_wp2_with (at_builtin; refine app_var rfl (.tmp 35) (.tmp 37) 24 Tryz.underlying24 rfl w.heap.size (.slice va done.length vc) done (pn, pv) rfl (own_belowV HROW3.out ((Below.refl _ _).alloc (Nat.le_refl _) _)) W3.heap.size rfl (last_A W3 _) (by have := HDL.out; (try simp only [List.length_append, List.length_cons, List.length_nil]); omega) (by have := HB3.out.size; simp only [World.size_alloc]; omega) ?_; intro b7 c7 V7 hown7 hgr7 hat7)
          have HROW7 := Lib.hid hown7
          have HB7 := Lib.hid (belowV_grown (HB3.out.alloc HB3.out.size (.cells #[.string (pn, pv).1, .string (pn, pv).2] 74)) (own_belowV HROW3.out ((Below.refl _ _).alloc (Nat.le_refl _) _)) hgr7 (by have := HB3.out.size; simp only [World.size_alloc]; omega))
          clear hown7 hgr7 hat7

          go_wp2_with fail
          go_roundw
          case rel => exact ⟨k + 1, false, done ++ [(pn, pv)], some ⟨b7, 0, none⟩, c7, by simp, rfl, by go_num, by omega, EQF.out, by have := HD1.out; have := HDL0.out rfl; (try simp only [List.length_append, List.length_cons, List.length_nil]); omega, fun _ => by have := HDL0.out rfl; (try simp only [List.length_append, List.length_cons, List.length_nil]); omega, by simpa using HROW7.out, HB7.out⟩
          case measure => simp [intOf]; omega
      · have hge : Op.bytesLess pn.toList nm.toList = false := by rw [bytesLess_eq, Lib.toList_data, Lib.toList_data]; exact decide_eq_false hle
        have HLE := Lib.hid hle
        clear hle
        by_cases hsame : pn = nm
        · have HSA := Lib.hid hsame
          have hq := tl_eq hsame
          clear hsame
          cases d with
          | true =>
            have EQF0 : setG nm val false l = (done) ++ setG nm val true (l.drop (k + 1)) := by
              rw [HEQ.out, HDC.out, setG]
              simp [HSA.out]
            have EQF := Lib.hid EQF0
            clear EQF0

            go_wp2_with fail
            go_roundw
            case rel => exact ⟨k + 1, true, done, va, vc, by simp, rfl, by go_num, by omega, EQF.out, by have := HD1.out; (try simp only [List.length_append, List.length_cons, List.length_nil]); omega, by simp, by simpa using HROW3.out, HB3.out⟩
            case measure => simp [intOf]; omega
          | false =>
            have EQF0 : setG nm val false l = (done ++ [(nm, val)]) ++ setG nm val true (l.drop (k + 1)) := by
              rw [HEQ.out, HDC.out, setG]
              simp [HSA.out]
            have EQF := Lib.hid EQF0
            clear EQF0

            go_wp2_with (at_builtin; refine app_var rfl (.tmp 25) (.tmp 29) 24 Tryz.underlying24 rfl w.heap.size (.slice va done.length vc) done (nm, val) rfl (own_belowV HROW3.out ((Below.refl _ _).alloc (Nat.le_refl _) _)) W3.heap.size rfl (last_A W3 _) (by have := HDL.out; (try simp only [List.length_append, List.length_cons, List.length_nil]); omega) (by have := HB3.out.size; simp only [World.size_alloc]; omega) ?_; intro b5 c5 V5 hown5 hgr5 hat5; have hh5 : V5.heap[h6]? = some (.cells #[.string pn, .string pv] 74 (0, 0)) := stayV hgr5 (blk_allocA HH6.out _) HNE3.out; obtain ⟨r0, r1⟩ : V5.cell? ⟨h6, 0, none⟩ = some (.string pn) ∧ V5.cell? ⟨h6, 1, none⟩ = some (.string pv) := ⟨(Lib.cell_of_heap hh5 0).trans rfl, (Lib.cell_of_heap hh5 1).trans rfl⟩; have rz := lt_blkA hh5; have HH5 := Lib.hid hh5; clear hh5)
            have HROW5 := Lib.hid hown5
            have HB5 := Lib.hid (belowV_grown (HB3.out.alloc HB3.out.size (.cells #[.string (nm, val).1, .string (nm, val).2] 74)) (own_belowV HROW3.out ((Below.refl _ _).alloc (Nat.le_refl _) _)) hgr5 (by have := HB3.out.size; simp only [World.size_alloc]; omega))
            have HNE5 : Hid (∀ g, (Value.slice (some ⟨b5, 0, none⟩) (done.length + 1) c5).ownBlock = some g → h6 ≠ g) := Lib.hid (fun g hg => by
              obtain rfl : b5 = g := by simpa [Value.ownBlock] using hg
              rcases hat5 with e | e
              · exact HNE3.out _ e
              · have := lt_blkA HH6.out; simp only [World.size_alloc] at e; omega)
            clear hown5 hgr5 hat5

            go_wp2_with fail
            go_roundw
            case rel => exact ⟨k + 1, true, done ++ [(nm, val)], some ⟨b5, 0, none⟩, c5, by simp, rfl, by go_num, by omega, EQF.out, by have := HD1.out; have := HDL0.out rfl; (try simp only [List.length_append, List.length_cons, List.length_nil]); omega, by simp, by simpa using HROW5.out, HB5.out⟩
            case measure => simp [intOf]; omega
        · have HSA := Lib.hid hsame
          have hq := tl_ne hsame
          clear hsame
          cases d with
          | true =>
            have EQF0 : setG nm val false l = (done ++ [(pn, pv)]) ++ setG nm val true (l.drop (k + 1)) := by
              rw [HEQ.out, HDC.out, setG]
              simp [HSA.out]
            have EQF := Lib.hid EQF0
            clear EQF0

            go_wp2_with (at_builtin; refine app_var rfl (.tmp 35) (.tmp 37) 24 Tryz.underlying24 rfl w.heap.size (.slice va done.length vc) done (pn, pv) rfl (own_belowV HROW3.out ((Below.refl _ _).alloc (Nat.le_refl _) _)) W3.heap.size rfl (last_A W3 _) (by have := HDL.out; (try simp only [List.length_append, List.length_cons, List.length_nil]); omega) (by have := HB3.out.size; simp only [World.size_alloc]; omega) ?_; intro b7 c7 V7 hown7 hgr7 hat7)
            have HROW7 := Lib.hid hown7
            have HB7 := Lib.hid (belowV_grown (HB3.out.alloc HB3.out.size (.cells #[.string (pn, pv).1, .string (pn, pv).2] 74)) (own_belowV HROW3.out ((Below.refl _ _).alloc (Nat.le_refl _) _)) hgr7 (by have := HB3.out.size; simp only [World.size_alloc]; omega))
            clear hown7 hgr7 hat7

            go_wp2_with fail
            go_roundw
            case rel => exact ⟨k + 1, true, done ++ [(pn, pv)], some ⟨b7, 0, none⟩, c7, by simp, rfl, by go_num, by omega, EQF.out, by have := HD1.out; (try simp only [List.length_append, List.length_cons, List.length_nil]); omega, by simp, by simpa using HROW7.out, HB7.out⟩
            case measure => simp [intOf]; omega
          | false =>
            have EQF0 : setG nm val false l = (done ++ [(nm, val)] ++ [(pn, pv)]) ++ setG nm val true (l.drop (k + 1)) := by
              rw [HEQ.out, HDC.out, setG]
              simp [HLE.out, HSA.out]
            have EQF := Lib.hid EQF0
            clear EQF0

            go_wp2_with (first
              | (at_builtin
                 refine app_var rfl (.tmp 25) (.tmp 29) 24 Tryz.underlying24 rfl w.heap.size (.slice va done.length vc) done (nm, val) rfl (own_belowV HROW3.out ((Below.refl _ _).alloc (Nat.le_refl _) _)) W3.heap.size rfl (last_A W3 _) (by have := HDL.out; (try simp only [List.length_append, List.length_cons, List.length_nil]); omega) (by have := HB3.out.size; simp only [World.size_alloc]; omega) ?_
                 intro b5 c5 V5 hown5 hgr5 hat5
                 have hh5 : V5.heap[h6]? = some (.cells #[.string pn, .string pv] 74 (0, 0)) := stayV hgr5 (blk_allocA HH6.out _) HNE3.out
                 obtain ⟨r0, r1⟩ : V5.cell? ⟨h6, 0, none⟩ = some (.string pn) ∧ V5.cell? ⟨h6, 1, none⟩ = some (.string pv) := ⟨(Lib.cell_of_heap hh5 0).trans rfl, (Lib.cell_of_heap hh5 1).trans rfl⟩
                 have rz := lt_blkA hh5
                 have HH5 := Lib.hid hh5
                 clear hh5
                 have HROW5 := Lib.hid hown5
                 have HB5 := Lib.hid (belowV_grown (HB3.out.alloc HB3.out.size (.cells #[.string (nm, val).1, .string (nm, val).2] 74)) (own_belowV HROW3.out ((Below.refl _ _).alloc (Nat.le_refl _) _)) hgr5 (by have := HB3.out.size; simp only [World.size_alloc]; omega))
                 have HNE5 : Hid (∀ g, (Value.slice (some ⟨b5, 0, none⟩) (done.length + 1) c5).ownBlock = some g → h6 ≠ g) := Lib.hid (fun g hg => by
                   obtain rfl : b5 = g := by simpa [Value.ownBlock] using hg
                   rcases hat5 with e | e
                   · exact HNE3.out _ e
                   · have := lt_blkA HH6.out; simp only [World.size_alloc] at e; omega)
                 clear hown5 hgr5 hat5)
              | (at_builtin; refine app_var rfl (.tmp 35) (.tmp 37) 24 Tryz.underlying24 rfl w.heap.size (.slice (some ⟨b5, 0, none⟩) (done.length + 1) c5) (done ++ [(nm, val)]) (pn, pv) rfl (own_belowV HROW5.out ((Below.refl _ _).alloc (Nat.le_refl _) _)) V5.heap.size rfl (last_A V5 _) (by have := HDL.out; (try simp only [List.length_append, List.length_cons, List.length_nil]); omega) (by have := HB5.out.size; simp only [World.size_alloc]; omega) ?_; intro b7 c7 V7 hown7 hgr7 hat7))
            have HROW7 := Lib.hid hown7
            have HB7 := Lib.hid (belowV_grown (HB5.out.alloc HB5.out.size (.cells #[.string (pn, pv).1, .string (pn, pv).2] 74)) (own_belowV HROW5.out ((Below.refl _ _).alloc (Nat.le_refl _) _)) hgr7 (by have := HB5.out.size; simp only [World.size_alloc]; omega))
            clear hown7 hgr7 hat7

            go_wp2_with fail
            go_roundw
            case rel => exact ⟨k + 1, true, done ++ [(nm, val)] ++ [(pn, pv)], some ⟨b7, 0, none⟩, c7, by simp, rfl, by go_num, by omega, EQF.out, by have := HD1.out; have := HDL0.out rfl; (try simp only [List.length_append, List.length_cons, List.length_nil]); omega, by simp, by simpa using HROW7.out, HB7.out⟩
            case measure => simp [intOf]; omega
    · have hke : k = n := by omega
      subst hke
      have hdr : l.drop k = [] := List.drop_eq_nil_of_le (by have := HN.out; omega)
      have HE : Hid (setG nm val false l = done ++ setG nm val d []) := Lib.hid (by rw [← hdr]; exact HEQ.out)
      clear hdr
      cases d with
      | true =>
        go_wp2_with fail
        go_ret
        have e : setV nm val l = done := by unfold setV; rw [HE.out]; simp [setG]
        rw [e]
        exact ⟨_, rfl, HROW.out, HBL.out⟩
      | false =>
        go_wp2_with (at_builtin; go_must (refine app_var rfl (.tmp 42) (.tmp 46) 24 Tryz.underlying24 rfl w.heap.size (.slice va done.length vc) done (nm, val) rfl (own_belowV HROW.out ((Below.refl _ _).alloc (Nat.le_refl _) _)) wr.heap.size rfl (last_A wr _) (by have := HDL.out; omega) (by have := HBL.out.size; simp only [World.size_alloc]; omega) ?_); intro b5 c5 V5 hown5 hgr5 hat5)
        have HROW5 := Lib.hid hown5
        have HB5 := Lib.hid (belowV_grown (HBL.out.alloc HBL.out.size (.cells #[.string nm, .string val] 74)) (own_belowV HROW.out ((Below.refl _ _).alloc (Nat.le_refl _) _)) hgr5 (by have := HBL.out.size; simp only [World.size_alloc]; omega))
        clear hown5 hgr5 hat5
        go_wp2_with fail
        go_ret
        have e : setV nm val l = done ++ [(nm, val)] := by unfold setV; rw [HE.out]; simp [setG]
        rw [e]
        exact ⟨_, rfl, HROW5.out, HB5.out⟩

end Go.Proofs.YthpmkpnndbjflaaGreatDoor
