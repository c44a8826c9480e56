/- The reference's reader of arithmetic in memory; F, fail, blank, assigns, level (gen_raa.py). -/
import Derived.Test.YtacfglopionkfaaGreatDoorRaP
import Derived.Test.YtacfglopionkfaaGreatDoorKAs
import Derived.Test.YtacfglopionkfaaGreatDoorAcTr
import Derived.Test.YtacfglopionkfaaGreatDoorKLi
import Derived.Deep.LoopGhost
namespace Go.Proofs.YtacfglopionkfaaGreatDoor
open Go.RowKit

def lgR (c : Nat) : Int := if c = 0 then 0 else 1
/-- The reader's cells: text, place, fault. -/
def raA (bv : Value) (k c q : Nat) : Array Value := #[bv, .int .i64 k, .int .i64 c, .int .i64 q, .int .i64 (lgR c)]
/-- The reader at the place k, with a fault (its code, its place; 0: none). -/
structure RaS (l : List Int) (bv : Value) (rb k c q : Nat) (w : World) : Prop where
  blk : w.heap[rb]? = some (.cells (raA bv k c q) 81 (0, 0))
  sl : Sl w bv l
  len : l.length ≤ 1024
  hi : k ≤ 1000000
  ap : ∀ x o n cap, bv = .slice (some ⟨x, o, none⟩) n cap → l = [] ∨ x ≠ rb
theorem RaS.lt {l : List Int} {bv : Value} {rb k c q : Nat} {w : World} (h : RaS l bv rb k c q w) : rb < w.heap.size := lt_of_heap h.blk
theorem sl_chR {l : List Int} {bv : Value} {rb : Nat} {w w' : World} (h : Sl w bv l) (ap : ∀ x o n cap, bv = .slice (some ⟨x, o, none⟩) n cap → l = [] ∨ x ≠ rb) (hc : Ch rb w w') : Sl w' bv l := by
  obtain ⟨hy, hl, ⟨rfl, a, cap, hv⟩ | ⟨x, o, cap, hv, hcl, hcm, hr⟩⟩ := h
  · exact ⟨hy, hl, Or.inl ⟨rfl, a, cap, hv⟩⟩
  · refine ⟨hy, hl, Or.inr ⟨x, o, cap, hv, hcl, hcm, fun i hi => ?_⟩⟩
    have hc' := hr i hi
    have hlt : x < w.heap.size := by
      rcases Nat.lt_or_ge x w.heap.size with h' | h'
      · exact h'
      · simp [World.cell?, Array.getElem?_eq_none h'] at hc'
    rcases ap _ _ _ _ hv with h0 | h0
    · rw [h0] at hi; simp at hi
    rw [World.cell?_of_block (w := w) (hc.2 x hlt h0)]
    exact hc'
theorem RaS.ch {l : List Int} {bv : Value} {rb k c q k' c' q' : Nat} {w w' : World} (h : RaS l bv rb k c q w) (hc : Ch rb w w') (hb : w'.heap[rb]? = some (.cells (raA bv k' c' q') 81 (0, 0))) (hk : k' ≤ 1000000) : RaS l bv rb k' c' q' w' :=
  ⟨hb, sl_chR h.sl h.ap hc, h.len, hk, h.ap⟩
theorem RaS.next {l : List Int} {bv : Value} {rb k c q : Nat} {w w' : World} (h : RaS l bv rb k c q w) (hb : Below w.heap.size w w') : RaS l bv rb k c q w' :=
  h.ch (Ch.of_below hb (Nat.le_of_lt h.lt)) ((hb.block rb h.lt).trans h.blk) h.hi
theorem RaS.cells {l : List Int} {bv : Value} {rb k c q : Nat} {w : World} (h : RaS l bv rb k c q w) : w.cell? ⟨rb, 0, none⟩ = some bv ∧ w.cell? ⟨rb, 1, none⟩ = some (.int .i64 k) ∧ w.cell? ⟨rb, 2, none⟩ = some (.int .i64 c) ∧ w.cell? ⟨rb, 3, none⟩ = some (.int .i64 q) ∧ w.cell? ⟨rb, 4, none⟩ = some (.int .i64 (lgR c)) :=
  ⟨(Lib.cell_of_heap h.blk 0).trans rfl, (Lib.cell_of_heap h.blk 1).trans rfl, (Lib.cell_of_heap h.blk 2).trans rfl, (Lib.cell_of_heap h.blk 3).trans rfl, (Lib.cell_of_heap h.blk 4).trans rfl⟩
theorem RaS.fr {l : List Int} {bv : Value} {rb k c q : Nat} {w : World} (h : RaS l bv rb k c q w) (i : Nat) : w.frozen? ⟨rb, i, none⟩ = false := by simp [World.frozen?, h.blk]
theorem RaS.setK {l : List Int} {bv : Value} {rb k c q : Nat} {w : World} (h : RaS l bv rb k c q w) (k' : Nat) (hk : k' ≤ 1000000) : RaS l bv rb k' c q (w.setCell ⟨rb, 1, none⟩ (.int .i64 (k' : Nat))) :=
  h.ch (Ch.set _ _ _) (by
    have := set_block h.blk 1 (.int .i64 (k' : Nat))
    simpa [raA] using this) hk
theorem RaS.shape {l : List Int} {bv : Value} {rb k c q : Nat} {w : World} (h : RaS l bv rb k c q w) : ∃ a cap, bv = .slice a l.length cap := by
  obtain ⟨hy, hl, ⟨rfl, a, cap, hv⟩ | ⟨x, o, cap, hv, hcl, hcm, hr⟩⟩ := h.sl
  · exact ⟨a, cap, hv⟩
  · exact ⟨_, cap, hv⟩
theorem RaS.row {l : List Int} {bv : Value} {rb k c q : Nat} {w : World} (h : RaS l bv rb k c q w) {j : Nat} (hj : j < l.length) : ∃ x o cap, bv = .slice (some ⟨x, o, none⟩) l.length cap ∧ l.length ≤ cap ∧ cap ≤ 9223372036854775807 ∧ Row w x o l ∧ x ≠ rb := by
  obtain ⟨hy, hl, ⟨rfl, a, cap, hv⟩ | ⟨x, o, cap, hv, hcl, hcm, hr⟩⟩ := h.sl
  · simp at hj
  · refine ⟨x, o, cap, hv, hcl, hcm, hr, ?_⟩
    rcases h.ap _ _ _ _ hv with h0 | h0
    · rw [h0] at hj; simp at hj
    · exact h0
theorem chSelf (rb : Nat) (w : World) (c : Array Value) : Ch rb w (w.setRow rb c) := ⟨below_setRow (Below.refl _ _) (Nat.le_refl _) _, fun i hi hn => by
  show (w.heap.modify rb _)[i]? = _
  rw [Array.getElem?_modify, if_neg (by omega)]⟩
theorem raF_any (c p g : Int) (w : World) :
    Calls Tryz.prog 40 #[.int .i64 c, .int .i64 p, .int .i64 g] w fun e w' => e = .returned (.agg #[.int .i64 c, .int .i64 p, .int .i64 g]) ∧ Below w.heap.size w w' := by
  go_enter Tryz.func40, Tryz.ntmps40
  go_wp2
  exact bodyPost_ret (by simp [results, Tryz.results40, go_sem]) rfl ⟨rfl, (Below.refl _ _).alloc (Nat.le_refl _) _⟩

set_option maxRecDepth 100000 in
set_option maxHeartbeats 4000000 in
/-- fail: the first fault stays. -/
theorem ra_fail0 {l : List Int} {bv : Value} {rb k : Nat} {w : World} (h : RaS l bv rb k 0 0 w) (c p : Nat) (hc : 0 < c) :
    Calls Tryz.prog 80 #[.pointer (some ⟨rb, 0, none⟩), .int .i64 c, .int .i64 p] w fun x w' => x = .returned (.tuple #[]) ∧ RaS l bv rb k c p w' ∧ Ch rb w w' := by
  obtain ⟨c0, c1, c2, c3, c4⟩ := h.cells
  have f2 := h.fr 2
  have HH := Lib.hid h
  have hlt := h.lt
  clear h
  go_enter Tryz.func80, Tryz.ntmps80
  go_wp2_with fail
  refine (raF_any (c : Nat) (p : Nat) 1 _).mono ?_
  rintro x w2 ⟨rfl, hb2⟩
  have h2 := HH.out.next hb2
  obtain ⟨d0, d1, d2, d3, d4⟩ := h2.cells
  have HH2 := Lib.hid h2
  have HB2 := Lib.hid hb2
  clear hb2 h2 c0 c1 c2 c3 c4 f2 HH
  go_wp2_with (first | (refine wpList_store_part rfl 32 _ _ rfl rfl rb 2 [.int .i64 c, .int .i64 p, .int .i64 1] rfl rfl _ (raA bv k 0 0) HH2.out.blk (by kernel_rfl) (by show 2 + 3 ≤ 5; decide) rfl ?_) | fail)
  go_end0
  have hCh : Ch rb w (w2.setRow rb (spl (raA bv k 0 0).toList 2 [.int .i64 c, .int .i64 p, .int .i64 1]).toArray) := ⟨below_setRow (HB2.out.mono (Nat.le_of_lt hlt)) (Nat.le_refl _) _, fun i hi hn => by
    show (w2.heap.modify rb _)[i]? = _
    rw [Array.getElem?_modify, if_neg (by omega)]
    exact HB2.out.block i hi⟩
  have hc0 : c ≠ 0 := by omega
  refine ⟨rfl, ⟨?_, sl_chR HH2.out.sl HH2.out.ap ?_, HH2.out.len, HH2.out.hi, HH2.out.ap⟩, hCh⟩
  · rw [setRow_self HH2.out.blk]
    show some (Obj.cells #[bv, .int .i64 k, .int .i64 c, .int .i64 p, .int .i64 1] _ _) = _
    unfold raA lgR
    rw [if_neg hc0]
  · exact chSelf rb w2 _

theorem skip_white {l : List Int} {j : Nat} (h : j < l.length) (hw : whiteB (l.getD j 0) = true) : skipN l (j + 1) = skipN l j := by
  have hd : l.drop j = l.getD j 0 :: l.drop (j + 1) := by
    rw [List.drop_eq_getElem_cons h, List.getD, List.getElem?_eq_getElem h]; rfl
  unfold skipN
  have : pre whiteB (l.drop j) = 1 + pre whiteB (l.drop (j + 1)) := by
    rw [hd]
    unfold pre
    rw [List.takeWhile_cons_of_pos hw, List.length_cons]
    omega
  omega
theorem skip_stay {l : List Int} {j : Nat} (h : l.length ≤ j ∨ whiteB (l.getD j 0) = false) : skipN l j = j := by
  have : pre whiteB (l.drop j) = 0 := pre_zero _ _ fun x m e => by
    rcases h with h | h
    · rw [List.drop_eq_nil_of_le h] at e; cases e
    · have hj : j < l.length := by
        rcases Nat.lt_or_ge j l.length with h' | h'
        · exact h'
        · rw [List.drop_eq_nil_of_le h'] at e; cases e
      rw [List.drop_eq_getElem_cons hj] at e
      rw [List.getD, List.getElem?_eq_getElem hj] at h
      simp only [List.cons.injEq] at e
      rw [← e.1]
      exact h
  unfold skipN
  omega
theorem skip_max (l : List Int) (k : Nat) (hk : k ≤ 1000000) (hl : l.length ≤ 1024) : skipN l k ≤ 1000000 := by
  rcases Nat.lt_or_ge k l.length with h | h
  · have := skipN_le l k (Nat.le_of_lt h); omega
  · rw [skip_stay (Or.inl h)]; exact hk
set_option maxRecDepth 100000 in
set_option maxHeartbeats 8000000 in
theorem ra_blank {l : List Int} {bv : Value} {rb k c q : Nat} {w : World} (h : RaS l bv rb k c q w) :
    Calls Tryz.prog 42 #[.pointer (some ⟨rb, 0, none⟩)] w fun x w' => x = .returned (.tuple #[]) ∧ RaS l bv rb (skipN l k) c q w' ∧ Ch rb w w' := by
  have hmx := skip_max l k h.hi h.len
  have HH := Lib.hid h
  have hge : k ≤ skipN l k := skipN_ge l k
  clear h
  obtain ⟨m, hm⟩ : ∃ m, skipN l k = m := ⟨_, rfl⟩
  rw [hm] at hmx hge ⊢
  have HM := Lib.hid hm
  clear hm
  go_enter Tryz.func42, Tryz.ntmps42
  go_wp2
  go_loopg [] (m - k) (fun gm wr => ∃ pj, skipN l pj = m ∧ pj + gm = m ∧ RaS l bv rb pj c q wr ∧ Ch rb w wr)
  case atStart => exact ⟨k, HM.out, by omega, HH.out, Ch.refl _ _⟩
  case round =>
    obtain ⟨pj, hj, hjm, hr, hch⟩ := hrel
    have HJ := Lib.hid hj
    have HR := Lib.hid hr
    have HC := Lib.hid hch
    have hll := hr.len
    have hji := hr.hi
    clear hj hr hch HH HM
    have HX : Hid (∀ X, Below wr.heap.size wr X → X.cell? ⟨rb, 0, none⟩ = some bv ∧ X.cell? ⟨rb, 1, none⟩ = some (.int .i64 pj)) := Lib.hid fun X hX => ⟨(HR.out.next hX).cells.1, (HR.out.next hX).cells.2.1⟩
    have HF : Hid (∀ X, Below wr.heap.size wr X → X.frozen? ⟨rb, 1, none⟩ = false) := Lib.hid fun X hX => (HR.out.next hX).fr 1
    by_cases hlt : pj < l.length
    · obtain ⟨x, ox, cap, rfl, hcl, hcm, hrow, hne⟩ := HR.out.row hlt
      have HW : Hid (∀ X, Below wr.heap.size wr X → X.cell? ⟨x, ox + pj, none⟩ = some (.int .u8 (l.getD pj 0))) := Lib.hid fun X hX => (hrow.below hX) pj hlt
      have HWA : Hid (∀ X, Calls Tryz.prog 78 #[.int .u8 (l.getD pj 0)] X fun e w' => e = .returned (.bool (whiteB (l.getD pj 0))) ∧ X = w') := Lib.hid fun X => whiteR_any _ X
      have HSW : Hid (whiteB (l.getD pj 0) = true → skipN l (pj + 1) = m) := Lib.hid fun hw => (skip_white hlt hw).trans HJ.out
      have HSS : Hid (whiteB (l.getD pj 0) = false → pj = m) := Lib.hid fun hw => (skip_stay (Or.inr hw)).symm.trans HJ.out
      clear hrow
      generalize l.getD pj 0 = cc at *
      have hlti : (pj : Int) < l.length := by omega
      have hdec : decide ((pj : Int) < l.length) = true := by simpa using hlti
      obtain ⟨wb, hwb⟩ : ∃ wb, whiteB cc = wb := ⟨_, rfl⟩
      rw [hwb] at HWA HSW HSS
      clear hwb
      cases wb
      case false =>
        go_wp2
        refine Reg.wp_region_vals (fun X => Below wr.heap.size wr X) (fun j => ([some (.pointer (some ⟨rb, 0, none⟩)), some (.pointer (some ⟨rb, 0, none⟩)), some (.pointer (some ⟨rb, 1, none⟩)), some (.int .i64 pj), some (.pointer (some ⟨rb, 0, none⟩)), some (.pointer (some ⟨rb, 0, none⟩)), some (.pointer (some ⟨rb, 0, none⟩)), some (.slice (some ⟨x, ox, none⟩) l.length cap), some (.int .i64 l.length), some (.bool true), some (.bool true), some (.pointer (some ⟨rb, 0, none⟩)), some (.pointer (some ⟨rb, 0, none⟩)), some (.pointer (some ⟨rb, 0, none⟩)), some (.slice (some ⟨x, ox, none⟩) l.length cap), some (.pointer (some ⟨rb, 0, none⟩)), some (.pointer (some ⟨rb, 0, none⟩)), some (.pointer (some ⟨rb, 1, none⟩)), some (.int .i64 pj), some (.pointer (some ⟨x, ox + pj, none⟩)), some (.int .u8 cc), some (.bool false), some (.bool false)] : List (Option Value)).getD j none) (fun _ _ _ => True) (by kernel_rfl) (by kernel_rfl) (by kernel_rfl) (by kernel_rfl) ?rs0 ?rsE ?rsZ
        case rs0 => exact (Below.refl _ _).drew
        case rsE =>
          refine Reg.EachV.plain rfl (fun T X hS hk K hK => ?_) ?_
          · skip
            have g0 : T[0]? = some (.pointer (some ⟨rb, 0, none⟩)) := hk.old 0 (by kernel_rfl) rfl
            have hK := hK _ X hS (Reg.Is.of_val rfl) (fun _ _ _ h => h)
            clear hk
            go_simp
            exact hK
          refine Reg.EachV.plain rfl (fun T X hS hk K hK => ?_) ?_
          · skip
            have g2 : T[2]? = some (.pointer (some ⟨rb, 0, none⟩)) := hk.val 0 2 (by kernel_rfl) (by kernel_rfl) rfl
            have hK := hK _ X hS (Reg.Is.of_val rfl) (fun _ _ _ h => h)
            clear hk
            go_simp
            exact hK
          refine Reg.EachV.plain rfl (fun T X hS hk K hK => ?_) ?_
          · skip
            have g3 : T[3]? = some (.pointer (some ⟨rb, 0, none⟩)) := hk.val 1 3 (by kernel_rfl) (by kernel_rfl) rfl
            have hK := hK _ X hS (Reg.Is.of_val rfl) (fun _ _ _ h => h)
            clear hk
            go_simp
            exact hK
          refine Reg.EachV.plain rfl (fun T X hS hk K hK => ?_) ?_
          · skip
            have g4 : T[4]? = some (.pointer (some ⟨rb, 1, none⟩)) := hk.val 2 4 (by kernel_rfl) (by kernel_rfl) rfl
            obtain ⟨e0, e1⟩ := HX.out X hS
            have hK := hK _ X hS (Reg.Is.of_val rfl) (fun _ _ _ h => h)
            clear hk
            go_simp
            exact hK
          refine Reg.EachV.plain rfl (fun T X hS hk K hK => ?_) ?_
          · skip
            have g0 : T[0]? = some (.pointer (some ⟨rb, 0, none⟩)) := hk.old 0 (by kernel_rfl) rfl
            have hK := hK _ X hS (Reg.Is.of_val rfl) (fun _ _ _ h => h)
            clear hk
            go_simp
            exact hK
          refine Reg.EachV.plain rfl (fun T X hS hk K hK => ?_) ?_
          · skip
            have g6 : T[6]? = some (.pointer (some ⟨rb, 0, none⟩)) := hk.val 4 6 (by kernel_rfl) (by kernel_rfl) rfl
            have hK := hK _ X hS (Reg.Is.of_val rfl) (fun _ _ _ h => h)
            clear hk
            go_simp
            exact hK
          refine Reg.EachV.plain rfl (fun T X hS hk K hK => ?_) ?_
          · skip
            have g7 : T[7]? = some (.pointer (some ⟨rb, 0, none⟩)) := hk.val 5 7 (by kernel_rfl) (by kernel_rfl) rfl
            have hK := hK _ X hS (Reg.Is.of_val rfl) (fun _ _ _ h => h)
            clear hk
            go_simp
            exact hK
          refine Reg.EachV.plain rfl (fun T X hS hk K hK => ?_) ?_
          · skip
            have g8 : T[8]? = some (.pointer (some ⟨rb, 0, none⟩)) := hk.val 6 8 (by kernel_rfl) (by kernel_rfl) rfl
            obtain ⟨e0, e1⟩ := HX.out X hS
            have hK := hK _ X hS (Reg.Is.of_val rfl) (fun _ _ _ h => h)
            clear hk
            go_simp
            exact hK
          refine Reg.EachV.plain rfl (fun T X hS hk K hK => ?_) ?_
          · skip
            have g9 : T[9]? = some (.slice (some ⟨x, ox, none⟩) l.length cap) := hk.val 7 9 (by kernel_rfl) (by kernel_rfl) rfl
            have hK := hK _ X hS (Reg.Is.of_val rfl) (fun _ _ _ h => h)
            clear hk
            go_simp
            exact hK
          refine Reg.EachV.plain rfl (fun T X hS hk K hK => ?_) ?_
          · skip
            have g5 : T[5]? = some (.int .i64 pj) := hk.val 3 5 (by kernel_rfl) (by kernel_rfl) rfl
            have g10 : T[10]? = some (.int .i64 l.length) := hk.val 8 10 (by kernel_rfl) (by kernel_rfl) rfl
            have hK := hK _ X hS (Reg.Is.of_val rfl) (fun _ _ _ h => h)
            clear hk
            go_simp
            exact hK
          refine Reg.EachV.plain rfl (fun T X hS hk K hK => ?_) ?_
          · skip
            have g11 : T[11]? = some (.bool true) := hk.val 9 11 (by kernel_rfl) (by kernel_rfl) rfl
            have hK := hK _ X hS (Reg.Is.of_val rfl) (fun _ _ _ h => h)
            clear hk
            go_simp
            exact hK
          refine Reg.EachV.guarded 10 12 true rfl (by kernel_rfl) (by kernel_rfl) rfl (fun T X hS hk K hK => ?_) ?_
          · skip
            have g0 : T[0]? = some (.pointer (some ⟨rb, 0, none⟩)) := hk.old 0 (by kernel_rfl) rfl
            have hK := hK _ X hS (Reg.Is.of_val rfl) (fun _ _ _ h => h)
            clear hk
            go_simp
            exact hK
          refine Reg.EachV.guarded 10 12 true rfl (by kernel_rfl) (by kernel_rfl) rfl (fun T X hS hk K hK => ?_) ?_
          · skip
            have g13 : T[13]? = some (.pointer (some ⟨rb, 0, none⟩)) := hk.val 11 13 (by kernel_rfl) (by kernel_rfl) rfl
            have hK := hK _ X hS (Reg.Is.of_val rfl) (fun _ _ _ h => h)
            clear hk
            go_simp
            exact hK
          refine Reg.EachV.guarded 10 12 true rfl (by kernel_rfl) (by kernel_rfl) rfl (fun T X hS hk K hK => ?_) ?_
          · skip
            have g14 : T[14]? = some (.pointer (some ⟨rb, 0, none⟩)) := hk.val 12 14 (by kernel_rfl) (by kernel_rfl) rfl
            have hK := hK _ X hS (Reg.Is.of_val rfl) (fun _ _ _ h => h)
            clear hk
            go_simp
            exact hK
          refine Reg.EachV.guarded 10 12 true rfl (by kernel_rfl) (by kernel_rfl) rfl (fun T X hS hk K hK => ?_) ?_
          · skip
            have g15 : T[15]? = some (.pointer (some ⟨rb, 0, none⟩)) := hk.val 13 15 (by kernel_rfl) (by kernel_rfl) rfl
            obtain ⟨e0, e1⟩ := HX.out X hS
            have hK := hK _ X hS (Reg.Is.of_val rfl) (fun _ _ _ h => h)
            clear hk
            go_simp
            exact hK
          refine Reg.EachV.guarded 10 12 true rfl (by kernel_rfl) (by kernel_rfl) rfl (fun T X hS hk K hK => ?_) ?_
          · skip
            have g0 : T[0]? = some (.pointer (some ⟨rb, 0, none⟩)) := hk.old 0 (by kernel_rfl) rfl
            have hK := hK _ X hS (Reg.Is.of_val rfl) (fun _ _ _ h => h)
            clear hk
            go_simp
            exact hK
          refine Reg.EachV.guarded 10 12 true rfl (by kernel_rfl) (by kernel_rfl) rfl (fun T X hS hk K hK => ?_) ?_
          · skip
            have g17 : T[17]? = some (.pointer (some ⟨rb, 0, none⟩)) := hk.val 15 17 (by kernel_rfl) (by kernel_rfl) rfl
            have hK := hK _ X hS (Reg.Is.of_val rfl) (fun _ _ _ h => h)
            clear hk
            go_simp
            exact hK
          refine Reg.EachV.guarded 10 12 true rfl (by kernel_rfl) (by kernel_rfl) rfl (fun T X hS hk K hK => ?_) ?_
          · skip
            have g18 : T[18]? = some (.pointer (some ⟨rb, 0, none⟩)) := hk.val 16 18 (by kernel_rfl) (by kernel_rfl) rfl
            have hK := hK _ X hS (Reg.Is.of_val rfl) (fun _ _ _ h => h)
            clear hk
            go_simp
            exact hK
          refine Reg.EachV.guarded 10 12 true rfl (by kernel_rfl) (by kernel_rfl) rfl (fun T X hS hk K hK => ?_) ?_
          · skip
            have g19 : T[19]? = some (.pointer (some ⟨rb, 1, none⟩)) := hk.val 17 19 (by kernel_rfl) (by kernel_rfl) rfl
            obtain ⟨e0, e1⟩ := HX.out X hS
            have hK := hK _ X hS (Reg.Is.of_val rfl) (fun _ _ _ h => h)
            clear hk
            go_simp
            exact hK
          refine Reg.EachV.guarded 10 12 true rfl (by kernel_rfl) (by kernel_rfl) rfl (fun T X hS hk K hK => ?_) ?_
          · skip
            have g16 : T[16]? = some (.slice (some ⟨x, ox, none⟩) l.length cap) := hk.val 14 16 (by kernel_rfl) (by kernel_rfl) rfl
            have g20 : T[20]? = some (.int .i64 pj) := hk.val 18 20 (by kernel_rfl) (by kernel_rfl) rfl
            have hK := hK _ X hS (Reg.Is.of_val rfl) (fun _ _ _ h => h)
            clear hk
            go_simp
            exact hK
          refine Reg.EachV.guarded 10 12 true rfl (by kernel_rfl) (by kernel_rfl) rfl (fun T X hS hk K hK => ?_) ?_
          · skip
            have g21 : T[21]? = some (.pointer (some ⟨x, ox + pj, none⟩)) := hk.val 19 21 (by kernel_rfl) (by kernel_rfl) rfl
            have e2 := HW.out X hS
            have hK := hK _ X hS (Reg.Is.of_val rfl) (fun _ _ _ h => h)
            clear hk
            go_simp
            exact hK
          refine Reg.EachV.guarded 10 12 true rfl (by kernel_rfl) (by kernel_rfl) rfl (fun T X hS hk K hK => ?_) ?_
          · skip
            have g22 : T[22]? = some (.int .u8 cc) := hk.val 20 22 (by kernel_rfl) (by kernel_rfl) rfl
            clear hk
            go_simp
            refine (HWA.out X).mono ?_
            rintro e w1 ⟨rfl, hb⟩
            exact hK _ _ (hb ▸ hS) (Reg.Is.of_val rfl) (fun _ _ _ h => h)
          refine Reg.EachV.plain rfl (fun T X hS hk K hK => ?_) ?_
          · skip
            have g12 : T[12]? = some (.bool true) := hk.val 10 12 (by kernel_rfl) (by kernel_rfl) rfl
            have g23 : T[23]? = some (.bool false) := hk.val 21 23 (by kernel_rfl) (by kernel_rfl) rfl
            have hK := hK _ X hS (Reg.Is.of_val rfl) (fun _ _ _ h => h)
            clear hk
            go_simp
            exact hK
          exact Reg.EachV.nil
        case rsZ =>
          intro u w1 hS hI
          have e0 : u 0 = .pointer (some ⟨rb, 0, none⟩) := (hI 0 (by decide)).val rfl
          have e1 : u 1 = .pointer (some ⟨rb, 0, none⟩) := (hI 1 (by decide)).val rfl
          have e2 : u 2 = .pointer (some ⟨rb, 1, none⟩) := (hI 2 (by decide)).val rfl
          have e3 : u 3 = .int .i64 pj := (hI 3 (by decide)).val rfl
          have e4 : u 4 = .pointer (some ⟨rb, 0, none⟩) := (hI 4 (by decide)).val rfl
          have e5 : u 5 = .pointer (some ⟨rb, 0, none⟩) := (hI 5 (by decide)).val rfl
          have e6 : u 6 = .pointer (some ⟨rb, 0, none⟩) := (hI 6 (by decide)).val rfl
          have e7 : u 7 = .slice (some ⟨x, ox, none⟩) l.length cap := (hI 7 (by decide)).val rfl
          have e8 : u 8 = .int .i64 l.length := (hI 8 (by decide)).val rfl
          have e9 : u 9 = .bool true := (hI 9 (by decide)).val rfl
          have e10 : u 10 = .bool true := (hI 10 (by decide)).val rfl
          have e11 : u 11 = .pointer (some ⟨rb, 0, none⟩) := (hI 11 (by decide)).val rfl
          have e12 : u 12 = .pointer (some ⟨rb, 0, none⟩) := (hI 12 (by decide)).val rfl
          have e13 : u 13 = .pointer (some ⟨rb, 0, none⟩) := (hI 13 (by decide)).val rfl
          have e14 : u 14 = .slice (some ⟨x, ox, none⟩) l.length cap := (hI 14 (by decide)).val rfl
          have e15 : u 15 = .pointer (some ⟨rb, 0, none⟩) := (hI 15 (by decide)).val rfl
          have e16 : u 16 = .pointer (some ⟨rb, 0, none⟩) := (hI 16 (by decide)).val rfl
          have e17 : u 17 = .pointer (some ⟨rb, 1, none⟩) := (hI 17 (by decide)).val rfl
          have e18 : u 18 = .int .i64 pj := (hI 18 (by decide)).val rfl
          have e19 : u 19 = .pointer (some ⟨x, ox + pj, none⟩) := (hI 19 (by decide)).val rfl
          have e20 : u 20 = .int .u8 cc := (hI 20 (by decide)).val rfl
          have e21 : u 21 = .bool false := (hI 21 (by decide)).val rfl
          have e22 : u 22 = .bool false := (hI 22 (by decide)).val rfl
          clear hI
          simp only [Reg.putAll, Act.put, List.setIfInBounds_toArray, List.set_cons_succ, List.set_cons_zero, Nat.zero_add, Nat.reduceAdd, e0, e1, e2, e3, e4, e5, e6, e7, e8, e9, e10, e11, e12, e13, e14, e15, e16, e17, e18, e19, e20, e21, e22]
          clear e0 e1 e2 e3 e4 e5 e6 e7 e8 e9 e10 e11 e12 e13 e14 e15 e16 e17 e18 e19 e20 e21 e22
          have HZ := Lib.hid hS
          clear hS
          go_wp2
          go_end0
          have hjm2 := HSS.out (by simp)
          subst hjm2
          exact ⟨rfl, HR.out.next HZ.out, HC.out.step HZ.out (Nat.le_of_lt HR.out.lt)⟩
      case true =>
        go_wp2
        refine Reg.wp_region_vals (fun X => Below wr.heap.size wr X) (fun j => ([some (.pointer (some ⟨rb, 0, none⟩)), some (.pointer (some ⟨rb, 0, none⟩)), some (.pointer (some ⟨rb, 1, none⟩)), some (.int .i64 pj), some (.pointer (some ⟨rb, 0, none⟩)), some (.pointer (some ⟨rb, 0, none⟩)), some (.pointer (some ⟨rb, 0, none⟩)), some (.slice (some ⟨x, ox, none⟩) l.length cap), some (.int .i64 l.length), some (.bool true), some (.bool true), some (.pointer (some ⟨rb, 0, none⟩)), some (.pointer (some ⟨rb, 0, none⟩)), some (.pointer (some ⟨rb, 0, none⟩)), some (.slice (some ⟨x, ox, none⟩) l.length cap), some (.pointer (some ⟨rb, 0, none⟩)), some (.pointer (some ⟨rb, 0, none⟩)), some (.pointer (some ⟨rb, 1, none⟩)), some (.int .i64 pj), some (.pointer (some ⟨x, ox + pj, none⟩)), some (.int .u8 cc), some (.bool true), some (.bool true)] : List (Option Value)).getD j none) (fun _ _ _ => True) (by kernel_rfl) (by kernel_rfl) (by kernel_rfl) (by kernel_rfl) ?rs0 ?rsE ?rsZ
        case rs0 => exact (Below.refl _ _).drew
        case rsE =>
          refine Reg.EachV.plain rfl (fun T X hS hk K hK => ?_) ?_
          · skip
            have g0 : T[0]? = some (.pointer (some ⟨rb, 0, none⟩)) := hk.old 0 (by kernel_rfl) rfl
            have hK := hK _ X hS (Reg.Is.of_val rfl) (fun _ _ _ h => h)
            clear hk
            go_simp
            exact hK
          refine Reg.EachV.plain rfl (fun T X hS hk K hK => ?_) ?_
          · skip
            have g2 : T[2]? = some (.pointer (some ⟨rb, 0, none⟩)) := hk.val 0 2 (by kernel_rfl) (by kernel_rfl) rfl
            have hK := hK _ X hS (Reg.Is.of_val rfl) (fun _ _ _ h => h)
            clear hk
            go_simp
            exact hK
          refine Reg.EachV.plain rfl (fun T X hS hk K hK => ?_) ?_
          · skip
            have g3 : T[3]? = some (.pointer (some ⟨rb, 0, none⟩)) := hk.val 1 3 (by kernel_rfl) (by kernel_rfl) rfl
            have hK := hK _ X hS (Reg.Is.of_val rfl) (fun _ _ _ h => h)
            clear hk
            go_simp
            exact hK
          refine Reg.EachV.plain rfl (fun T X hS hk K hK => ?_) ?_
          · skip
            have g4 : T[4]? = some (.pointer (some ⟨rb, 1, none⟩)) := hk.val 2 4 (by kernel_rfl) (by kernel_rfl) rfl
            obtain ⟨e0, e1⟩ := HX.out X hS
            have hK := hK _ X hS (Reg.Is.of_val rfl) (fun _ _ _ h => h)
            clear hk
            go_simp
            exact hK
          refine Reg.EachV.plain rfl (fun T X hS hk K hK => ?_) ?_
          · skip
            have g0 : T[0]? = some (.pointer (some ⟨rb, 0, none⟩)) := hk.old 0 (by kernel_rfl) rfl
            have hK := hK _ X hS (Reg.Is.of_val rfl) (fun _ _ _ h => h)
            clear hk
            go_simp
            exact hK
          refine Reg.EachV.plain rfl (fun T X hS hk K hK => ?_) ?_
          · skip
            have g6 : T[6]? = some (.pointer (some ⟨rb, 0, none⟩)) := hk.val 4 6 (by kernel_rfl) (by kernel_rfl) rfl
            have hK := hK _ X hS (Reg.Is.of_val rfl) (fun _ _ _ h => h)
            clear hk
            go_simp
            exact hK
          refine Reg.EachV.plain rfl (fun T X hS hk K hK => ?_) ?_
          · skip
            have g7 : T[7]? = some (.pointer (some ⟨rb, 0, none⟩)) := hk.val 5 7 (by kernel_rfl) (by kernel_rfl) rfl
            have hK := hK _ X hS (Reg.Is.of_val rfl) (fun _ _ _ h => h)
            clear hk
            go_simp
            exact hK
          refine Reg.EachV.plain rfl (fun T X hS hk K hK => ?_) ?_
          · skip
            have g8 : T[8]? = some (.pointer (some ⟨rb, 0, none⟩)) := hk.val 6 8 (by kernel_rfl) (by kernel_rfl) rfl
            obtain ⟨e0, e1⟩ := HX.out X hS
            have hK := hK _ X hS (Reg.Is.of_val rfl) (fun _ _ _ h => h)
            clear hk
            go_simp
            exact hK
          refine Reg.EachV.plain rfl (fun T X hS hk K hK => ?_) ?_
          · skip
            have g9 : T[9]? = some (.slice (some ⟨x, ox, none⟩) l.length cap) := hk.val 7 9 (by kernel_rfl) (by kernel_rfl) rfl
            have hK := hK _ X hS (Reg.Is.of_val rfl) (fun _ _ _ h => h)
            clear hk
            go_simp
            exact hK
          refine Reg.EachV.plain rfl (fun T X hS hk K hK => ?_) ?_
          · skip
            have g5 : T[5]? = some (.int .i64 pj) := hk.val 3 5 (by kernel_rfl) (by kernel_rfl) rfl
            have g10 : T[10]? = some (.int .i64 l.length) := hk.val 8 10 (by kernel_rfl) (by kernel_rfl) rfl
            have hK := hK _ X hS (Reg.Is.of_val rfl) (fun _ _ _ h => h)
            clear hk
            go_simp
            exact hK
          refine Reg.EachV.plain rfl (fun T X hS hk K hK => ?_) ?_
          · skip
            have g11 : T[11]? = some (.bool true) := hk.val 9 11 (by kernel_rfl) (by kernel_rfl) rfl
            have hK := hK _ X hS (Reg.Is.of_val rfl) (fun _ _ _ h => h)
            clear hk
            go_simp
            exact hK
          refine Reg.EachV.guarded 10 12 true rfl (by kernel_rfl) (by kernel_rfl) rfl (fun T X hS hk K hK => ?_) ?_
          · skip
            have g0 : T[0]? = some (.pointer (some ⟨rb, 0, none⟩)) := hk.old 0 (by kernel_rfl) rfl
            have hK := hK _ X hS (Reg.Is.of_val rfl) (fun _ _ _ h => h)
            clear hk
            go_simp
            exact hK
          refine Reg.EachV.guarded 10 12 true rfl (by kernel_rfl) (by kernel_rfl) rfl (fun T X hS hk K hK => ?_) ?_
          · skip
            have g13 : T[13]? = some (.pointer (some ⟨rb, 0, none⟩)) := hk.val 11 13 (by kernel_rfl) (by kernel_rfl) rfl
            have hK := hK _ X hS (Reg.Is.of_val rfl) (fun _ _ _ h => h)
            clear hk
            go_simp
            exact hK
          refine Reg.EachV.guarded 10 12 true rfl (by kernel_rfl) (by kernel_rfl) rfl (fun T X hS hk K hK => ?_) ?_
          · skip
            have g14 : T[14]? = some (.pointer (some ⟨rb, 0, none⟩)) := hk.val 12 14 (by kernel_rfl) (by kernel_rfl) rfl
            have hK := hK _ X hS (Reg.Is.of_val rfl) (fun _ _ _ h => h)
            clear hk
            go_simp
            exact hK
          refine Reg.EachV.guarded 10 12 true rfl (by kernel_rfl) (by kernel_rfl) rfl (fun T X hS hk K hK => ?_) ?_
          · skip
            have g15 : T[15]? = some (.pointer (some ⟨rb, 0, none⟩)) := hk.val 13 15 (by kernel_rfl) (by kernel_rfl) rfl
            obtain ⟨e0, e1⟩ := HX.out X hS
            have hK := hK _ X hS (Reg.Is.of_val rfl) (fun _ _ _ h => h)
            clear hk
            go_simp
            exact hK
          refine Reg.EachV.guarded 10 12 true rfl (by kernel_rfl) (by kernel_rfl) rfl (fun T X hS hk K hK => ?_) ?_
          · skip
            have g0 : T[0]? = some (.pointer (some ⟨rb, 0, none⟩)) := hk.old 0 (by kernel_rfl) rfl
            have hK := hK _ X hS (Reg.Is.of_val rfl) (fun _ _ _ h => h)
            clear hk
            go_simp
            exact hK
          refine Reg.EachV.guarded 10 12 true rfl (by kernel_rfl) (by kernel_rfl) rfl (fun T X hS hk K hK => ?_) ?_
          · skip
            have g17 : T[17]? = some (.pointer (some ⟨rb, 0, none⟩)) := hk.val 15 17 (by kernel_rfl) (by kernel_rfl) rfl
            have hK := hK _ X hS (Reg.Is.of_val rfl) (fun _ _ _ h => h)
            clear hk
            go_simp
            exact hK
          refine Reg.EachV.guarded 10 12 true rfl (by kernel_rfl) (by kernel_rfl) rfl (fun T X hS hk K hK => ?_) ?_
          · skip
            have g18 : T[18]? = some (.pointer (some ⟨rb, 0, none⟩)) := hk.val 16 18 (by kernel_rfl) (by kernel_rfl) rfl
            have hK := hK _ X hS (Reg.Is.of_val rfl) (fun _ _ _ h => h)
            clear hk
            go_simp
            exact hK
          refine Reg.EachV.guarded 10 12 true rfl (by kernel_rfl) (by kernel_rfl) rfl (fun T X hS hk K hK => ?_) ?_
          · skip
            have g19 : T[19]? = some (.pointer (some ⟨rb, 1, none⟩)) := hk.val 17 19 (by kernel_rfl) (by kernel_rfl) rfl
            obtain ⟨e0, e1⟩ := HX.out X hS
            have hK := hK _ X hS (Reg.Is.of_val rfl) (fun _ _ _ h => h)
            clear hk
            go_simp
            exact hK
          refine Reg.EachV.guarded 10 12 true rfl (by kernel_rfl) (by kernel_rfl) rfl (fun T X hS hk K hK => ?_) ?_
          · skip
            have g16 : T[16]? = some (.slice (some ⟨x, ox, none⟩) l.length cap) := hk.val 14 16 (by kernel_rfl) (by kernel_rfl) rfl
            have g20 : T[20]? = some (.int .i64 pj) := hk.val 18 20 (by kernel_rfl) (by kernel_rfl) rfl
            have hK := hK _ X hS (Reg.Is.of_val rfl) (fun _ _ _ h => h)
            clear hk
            go_simp
            exact hK
          refine Reg.EachV.guarded 10 12 true rfl (by kernel_rfl) (by kernel_rfl) rfl (fun T X hS hk K hK => ?_) ?_
          · skip
            have g21 : T[21]? = some (.pointer (some ⟨x, ox + pj, none⟩)) := hk.val 19 21 (by kernel_rfl) (by kernel_rfl) rfl
            have e2 := HW.out X hS
            have hK := hK _ X hS (Reg.Is.of_val rfl) (fun _ _ _ h => h)
            clear hk
            go_simp
            exact hK
          refine Reg.EachV.guarded 10 12 true rfl (by kernel_rfl) (by kernel_rfl) rfl (fun T X hS hk K hK => ?_) ?_
          · skip
            have g22 : T[22]? = some (.int .u8 cc) := hk.val 20 22 (by kernel_rfl) (by kernel_rfl) rfl
            clear hk
            go_simp
            refine (HWA.out X).mono ?_
            rintro e w1 ⟨rfl, hb⟩
            exact hK _ _ (hb ▸ hS) (Reg.Is.of_val rfl) (fun _ _ _ h => h)
          refine Reg.EachV.plain rfl (fun T X hS hk K hK => ?_) ?_
          · skip
            have g12 : T[12]? = some (.bool true) := hk.val 10 12 (by kernel_rfl) (by kernel_rfl) rfl
            have g23 : T[23]? = some (.bool true) := hk.val 21 23 (by kernel_rfl) (by kernel_rfl) rfl
            have hK := hK _ X hS (Reg.Is.of_val rfl) (fun _ _ _ h => h)
            clear hk
            go_simp
            exact hK
          exact Reg.EachV.nil
        case rsZ =>
          intro u w1 hS hI
          have e0 : u 0 = .pointer (some ⟨rb, 0, none⟩) := (hI 0 (by decide)).val rfl
          have e1 : u 1 = .pointer (some ⟨rb, 0, none⟩) := (hI 1 (by decide)).val rfl
          have e2 : u 2 = .pointer (some ⟨rb, 1, none⟩) := (hI 2 (by decide)).val rfl
          have e3 : u 3 = .int .i64 pj := (hI 3 (by decide)).val rfl
          have e4 : u 4 = .pointer (some ⟨rb, 0, none⟩) := (hI 4 (by decide)).val rfl
          have e5 : u 5 = .pointer (some ⟨rb, 0, none⟩) := (hI 5 (by decide)).val rfl
          have e6 : u 6 = .pointer (some ⟨rb, 0, none⟩) := (hI 6 (by decide)).val rfl
          have e7 : u 7 = .slice (some ⟨x, ox, none⟩) l.length cap := (hI 7 (by decide)).val rfl
          have e8 : u 8 = .int .i64 l.length := (hI 8 (by decide)).val rfl
          have e9 : u 9 = .bool true := (hI 9 (by decide)).val rfl
          have e10 : u 10 = .bool true := (hI 10 (by decide)).val rfl
          have e11 : u 11 = .pointer (some ⟨rb, 0, none⟩) := (hI 11 (by decide)).val rfl
          have e12 : u 12 = .pointer (some ⟨rb, 0, none⟩) := (hI 12 (by decide)).val rfl
          have e13 : u 13 = .pointer (some ⟨rb, 0, none⟩) := (hI 13 (by decide)).val rfl
          have e14 : u 14 = .slice (some ⟨x, ox, none⟩) l.length cap := (hI 14 (by decide)).val rfl
          have e15 : u 15 = .pointer (some ⟨rb, 0, none⟩) := (hI 15 (by decide)).val rfl
          have e16 : u 16 = .pointer (some ⟨rb, 0, none⟩) := (hI 16 (by decide)).val rfl
          have e17 : u 17 = .pointer (some ⟨rb, 1, none⟩) := (hI 17 (by decide)).val rfl
          have e18 : u 18 = .int .i64 pj := (hI 18 (by decide)).val rfl
          have e19 : u 19 = .pointer (some ⟨x, ox + pj, none⟩) := (hI 19 (by decide)).val rfl
          have e20 : u 20 = .int .u8 cc := (hI 20 (by decide)).val rfl
          have e21 : u 21 = .bool true := (hI 21 (by decide)).val rfl
          have e22 : u 22 = .bool true := (hI 22 (by decide)).val rfl
          clear hI
          simp only [Reg.putAll, Act.put, List.setIfInBounds_toArray, List.set_cons_succ, List.set_cons_zero, Nat.zero_add, Nat.reduceAdd, e0, e1, e2, e3, e4, e5, e6, e7, e8, e9, e10, e11, e12, e13, e14, e15, e16, e17, e18, e19, e20, e21, e22]
          clear e0 e1 e2 e3 e4 e5 e6 e7 e8 e9 e10 e11 e12 e13 e14 e15 e16 e17 e18 e19 e20 e21 e22
          have HZ := Lib.hid hS
          have HR1 := Lib.hid (HR.out.next hS)
          have HC1 := Lib.hid (HC.out.step hS (Nat.le_of_lt HR.out.lt))
          obtain ⟨e0, e1⟩ := HX.out w1 hS
          have ef := HF.out w1 hS
          clear hS
          have hs1 := HSW.out (by simp)
          have hle := skipN_ge l (pj + 1)
          rw [hs1] at hle
          have HS1 := Lib.hid hs1
          clear hs1
          obtain ⟨gg, rfl⟩ : ∃ gg, gk = gg + 1 := ⟨gk - 1, by omega⟩
          go_wp2
          go_roundg gg
          case rel => exact ⟨pj + 1, HS1.out, by omega, HR1.out.setK (pj + 1) (by omega), HC1.out.trans (Ch.set _ _ _)⟩
          case measure => omega
    · obtain ⟨aa, cap, rfl⟩ := HR.out.shape
      have hjm2 : pj = m := (skip_stay (Or.inl (by omega))).symm.trans HJ.out
      have hlti : ¬ (pj : Int) < l.length := by omega
      have hdec : decide ((pj : Int) < l.length) = false := by simpa using hlti
      subst hjm2
      go_wp2
      refine Reg.wp_region_vals (fun X => Below wr.heap.size wr X) (fun j => ([some (.pointer (some ⟨rb, 0, none⟩)), some (.pointer (some ⟨rb, 0, none⟩)), some (.pointer (some ⟨rb, 1, none⟩)), some (.int .i64 pj), some (.pointer (some ⟨rb, 0, none⟩)), some (.pointer (some ⟨rb, 0, none⟩)), some (.pointer (some ⟨rb, 0, none⟩)), some (.slice aa l.length cap), some (.int .i64 l.length), some (.bool false), some (.bool false), some undef, some undef, some undef, some undef, some undef, some undef, some undef, some undef, some undef, some undef, some undef, some (.bool false)] : List (Option Value)).getD j none) (fun _ _ _ => True) (by kernel_rfl) (by kernel_rfl) (by kernel_rfl) (by kernel_rfl) ?rs0 ?rsE ?rsZ
      case rs0 => exact (Below.refl _ _).drew
      case rsE =>
        refine Reg.EachV.plain rfl (fun T X hS hk K hK => ?_) ?_
        · skip
          have g0 : T[0]? = some (.pointer (some ⟨rb, 0, none⟩)) := hk.old 0 (by kernel_rfl) rfl
          have hK := hK _ X hS (Reg.Is.of_val rfl) (fun _ _ _ h => h)
          clear hk
          go_simp
          exact hK
        refine Reg.EachV.plain rfl (fun T X hS hk K hK => ?_) ?_
        · skip
          have g2 : T[2]? = some (.pointer (some ⟨rb, 0, none⟩)) := hk.val 0 2 (by kernel_rfl) (by kernel_rfl) rfl
          have hK := hK _ X hS (Reg.Is.of_val rfl) (fun _ _ _ h => h)
          clear hk
          go_simp
          exact hK
        refine Reg.EachV.plain rfl (fun T X hS hk K hK => ?_) ?_
        · skip
          have g3 : T[3]? = some (.pointer (some ⟨rb, 0, none⟩)) := hk.val 1 3 (by kernel_rfl) (by kernel_rfl) rfl
          have hK := hK _ X hS (Reg.Is.of_val rfl) (fun _ _ _ h => h)
          clear hk
          go_simp
          exact hK
        refine Reg.EachV.plain rfl (fun T X hS hk K hK => ?_) ?_
        · skip
          have g4 : T[4]? = some (.pointer (some ⟨rb, 1, none⟩)) := hk.val 2 4 (by kernel_rfl) (by kernel_rfl) rfl
          obtain ⟨e0, e1⟩ := HX.out X hS
          have hK := hK _ X hS (Reg.Is.of_val rfl) (fun _ _ _ h => h)
          clear hk
          go_simp
          exact hK
        refine Reg.EachV.plain rfl (fun T X hS hk K hK => ?_) ?_
        · skip
          have g0 : T[0]? = some (.pointer (some ⟨rb, 0, none⟩)) := hk.old 0 (by kernel_rfl) rfl
          have hK := hK _ X hS (Reg.Is.of_val rfl) (fun _ _ _ h => h)
          clear hk
          go_simp
          exact hK
        refine Reg.EachV.plain rfl (fun T X hS hk K hK => ?_) ?_
        · skip
          have g6 : T[6]? = some (.pointer (some ⟨rb, 0, none⟩)) := hk.val 4 6 (by kernel_rfl) (by kernel_rfl) rfl
          have hK := hK _ X hS (Reg.Is.of_val rfl) (fun _ _ _ h => h)
          clear hk
          go_simp
          exact hK
        refine Reg.EachV.plain rfl (fun T X hS hk K hK => ?_) ?_
        · skip
          have g7 : T[7]? = some (.pointer (some ⟨rb, 0, none⟩)) := hk.val 5 7 (by kernel_rfl) (by kernel_rfl) rfl
          have hK := hK _ X hS (Reg.Is.of_val rfl) (fun _ _ _ h => h)
          clear hk
          go_simp
          exact hK
        refine Reg.EachV.plain rfl (fun T X hS hk K hK => ?_) ?_
        · skip
          have g8 : T[8]? = some (.pointer (some ⟨rb, 0, none⟩)) := hk.val 6 8 (by kernel_rfl) (by kernel_rfl) rfl
          obtain ⟨e0, e1⟩ := HX.out X hS
          have hK := hK _ X hS (Reg.Is.of_val rfl) (fun _ _ _ h => h)
          clear hk
          go_simp
          exact hK
        refine Reg.EachV.plain rfl (fun T X hS hk K hK => ?_) ?_
        · skip
          have g9 : T[9]? = some (.slice aa l.length cap) := hk.val 7 9 (by kernel_rfl) (by kernel_rfl) rfl
          have hK := hK _ X hS (Reg.Is.of_val rfl) (fun _ _ _ h => h)
          clear hk
          go_simp
          exact hK
        refine Reg.EachV.plain rfl (fun T X hS hk K hK => ?_) ?_
        · skip
          have g5 : T[5]? = some (.int .i64 pj) := hk.val 3 5 (by kernel_rfl) (by kernel_rfl) rfl
          have g10 : T[10]? = some (.int .i64 l.length) := hk.val 8 10 (by kernel_rfl) (by kernel_rfl) rfl
          have hK := hK _ X hS (Reg.Is.of_val rfl) (fun _ _ _ h => h)
          clear hk
          go_simp
          exact hK
        refine Reg.EachV.plain rfl (fun T X hS hk K hK => ?_) ?_
        · skip
          have g11 : T[11]? = some (.bool false) := hk.val 9 11 (by kernel_rfl) (by kernel_rfl) rfl
          have hK := hK _ X hS (Reg.Is.of_val rfl) (fun _ _ _ h => h)
          clear hk
          go_simp
          exact hK
        refine Reg.EachV.passed 10 12 false rfl (by kernel_rfl) (by kernel_rfl) rfl rfl ?_
        refine Reg.EachV.passed 10 12 false rfl (by kernel_rfl) (by kernel_rfl) rfl rfl ?_
        refine Reg.EachV.passed 10 12 false rfl (by kernel_rfl) (by kernel_rfl) rfl rfl ?_
        refine Reg.EachV.passed 10 12 false rfl (by kernel_rfl) (by kernel_rfl) rfl rfl ?_
        refine Reg.EachV.passed 10 12 false rfl (by kernel_rfl) (by kernel_rfl) rfl rfl ?_
        refine Reg.EachV.passed 10 12 false rfl (by kernel_rfl) (by kernel_rfl) rfl rfl ?_
        refine Reg.EachV.passed 10 12 false rfl (by kernel_rfl) (by kernel_rfl) rfl rfl ?_
        refine Reg.EachV.passed 10 12 false rfl (by kernel_rfl) (by kernel_rfl) rfl rfl ?_
        refine Reg.EachV.passed 10 12 false rfl (by kernel_rfl) (by kernel_rfl) rfl rfl ?_
        refine Reg.EachV.passed 10 12 false rfl (by kernel_rfl) (by kernel_rfl) rfl rfl ?_
        refine Reg.EachV.passed 10 12 false rfl (by kernel_rfl) (by kernel_rfl) rfl rfl ?_
        refine Reg.EachV.plain rfl (fun T X hS hk K hK => ?_) ?_
        · skip
          have g12 : T[12]? = some (.bool false) := hk.val 10 12 (by kernel_rfl) (by kernel_rfl) rfl
          have g23 : T[23]? = some (undef) := hk.val 21 23 (by kernel_rfl) (by kernel_rfl) rfl
          have hK := hK _ X hS (Reg.Is.of_val rfl) (fun _ _ _ h => h)
          clear hk
          go_simp
          exact hK
        exact Reg.EachV.nil
      case rsZ =>
        intro u w1 hS hI
        have e0 : u 0 = .pointer (some ⟨rb, 0, none⟩) := (hI 0 (by decide)).val rfl
        have e1 : u 1 = .pointer (some ⟨rb, 0, none⟩) := (hI 1 (by decide)).val rfl
        have e2 : u 2 = .pointer (some ⟨rb, 1, none⟩) := (hI 2 (by decide)).val rfl
        have e3 : u 3 = .int .i64 pj := (hI 3 (by decide)).val rfl
        have e4 : u 4 = .pointer (some ⟨rb, 0, none⟩) := (hI 4 (by decide)).val rfl
        have e5 : u 5 = .pointer (some ⟨rb, 0, none⟩) := (hI 5 (by decide)).val rfl
        have e6 : u 6 = .pointer (some ⟨rb, 0, none⟩) := (hI 6 (by decide)).val rfl
        have e7 : u 7 = .slice aa l.length cap := (hI 7 (by decide)).val rfl
        have e8 : u 8 = .int .i64 l.length := (hI 8 (by decide)).val rfl
        have e9 : u 9 = .bool false := (hI 9 (by decide)).val rfl
        have e10 : u 10 = .bool false := (hI 10 (by decide)).val rfl
        have e11 : u 11 = undef := (hI 11 (by decide)).val rfl
        have e12 : u 12 = undef := (hI 12 (by decide)).val rfl
        have e13 : u 13 = undef := (hI 13 (by decide)).val rfl
        have e14 : u 14 = undef := (hI 14 (by decide)).val rfl
        have e15 : u 15 = undef := (hI 15 (by decide)).val rfl
        have e16 : u 16 = undef := (hI 16 (by decide)).val rfl
        have e17 : u 17 = undef := (hI 17 (by decide)).val rfl
        have e18 : u 18 = undef := (hI 18 (by decide)).val rfl
        have e19 : u 19 = undef := (hI 19 (by decide)).val rfl
        have e20 : u 20 = undef := (hI 20 (by decide)).val rfl
        have e21 : u 21 = undef := (hI 21 (by decide)).val rfl
        have e22 : u 22 = .bool false := (hI 22 (by decide)).val rfl
        clear hI
        simp only [Reg.putAll, Act.put, List.setIfInBounds_toArray, List.set_cons_succ, List.set_cons_zero, Nat.zero_add, Nat.reduceAdd, e0, e1, e2, e3, e4, e5, e6, e7, e8, e9, e10, e11, e12, e13, e14, e15, e16, e17, e18, e19, e20, e21, e22]
        clear e0 e1 e2 e3 e4 e5 e6 e7 e8 e9 e10 e11 e12 e13 e14 e15 e16 e17 e18 e19 e20 e21 e22
        have HZ := Lib.hid hS
        clear hS
        go_wp2
        go_end0
        exact ⟨rfl, HR.out.next HZ.out, HC.out.step HZ.out (Nat.le_of_lt HR.out.lt)⟩

set_option maxRecDepth 100000 in
set_option maxHeartbeats 8000000 in
theorem ra_assigns (s : ByteArray) (hs : s = sEmpty ∨ s ∈ opList) (w : World) :
    Calls Tryz.prog 76 #[.string s] w fun x w' => x = .returned (.bool (asgB s)) ∧ w' = w := by
  have hd : ∃ b, asgB s = b := ⟨_, rfl⟩
  obtain ⟨b, hb⟩ := hd
  rw [hb]
  have HBB := Lib.hid hb
  clear hb
  simp only [opList, sEmpty, List.mem_cons, List.not_mem_nil, or_false] at hs
  rcases hs with rfl | rfl | rfl | rfl | rfl | rfl | rfl | rfl | rfl | rfl | rfl | rfl | rfl | rfl | rfl | rfl | rfl | rfl | rfl | rfl | rfl | rfl | rfl | rfl | rfl | rfl | rfl | rfl | rfl | rfl | rfl | rfl | rfl | rfl | rfl | rfl
  all_goals
    go_enter Tryz.func76, Tryz.ntmps76
    go_wp2
    go_ret
    exact ⟨ret_bool (by rw [← HBB.out]; rfl), rfl⟩
set_option maxRecDepth 100000 in
set_option maxHeartbeats 8000000 in
theorem ra_level (s : ByteArray) (hs : s = sEmpty ∨ s ∈ opList) (w : World) :
    Calls Tryz.prog 148 #[.string s] w fun x w' => x = .returned (.int .i64 (strN s)) ∧ w' = w := by
  have hd : ∃ b, strN s = b := ⟨_, rfl⟩
  obtain ⟨b, hb⟩ := hd
  rw [hb]
  have HBB := Lib.hid hb
  clear hb
  simp only [opList, sEmpty, List.mem_cons, List.not_mem_nil, or_false] at hs
  rcases hs with rfl | rfl | rfl | rfl | rfl | rfl | rfl | rfl | rfl | rfl | rfl | rfl | rfl | rfl | rfl | rfl | rfl | rfl | rfl | rfl | rfl | rfl | rfl | rfl | rfl | rfl | rfl | rfl | rfl | rfl | rfl | rfl | rfl | rfl | rfl | rfl
  all_goals
    go_enter Tryz.func148, Tryz.ntmps148
    go_wp2
    go_ret
    exact ⟨ret_int (by rw [← HBB.out]; rfl), rfl⟩
end Go.Proofs.YtacfglopionkfaaGreatDoor
