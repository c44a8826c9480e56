/- The reference's reader of arithmetic: what may not stand at its place; what reading leaves (gen_rac.py). -/
import Derived.Test.YtacfglopionkfaaGreatDoorRaB
import Derived.Test.YtacfglopionkfaaGreatDoorAcDr
import Derived.Test.YtacfglopionkfaaGreatDoorKAs
namespace Go.Proofs.YtacfglopionkfaaGreatDoor
open Go.RowKit

/-- A tree that is none. -/
def zT : Tr := .un sEmpty 0 (.num 0 0)
def zA : Array Value := #[.string ⟨#[]⟩, .int .i64 0, .string ⟨#[]⟩, .int .i64 0, .int .i64 0, .slice none 0 0]
theorem z6_built : Tryz.prog.built 30 [] = some zA := by kernel_rfl
/-- What reading leaves: a tree, new in memory, and the place behind it; or the fault. -/
def RaQ (l : List Int) (bv : Value) (rb n lo : Nat) : Rs → Tr → Value → World → Prop
  | .ok t nx, y, kv, w' => y = t ∧ t.In w' lo kv ∧ ∃ k, RaS l bv rb k 0 0 w' ∧ k ≤ l.length ∧ tok l k = nx
  | .bad c q, _, _, w' => 0 < c ∧ ∃ k, RaS l bv rb k c q w' ∧ k ≤ l.length + n
def RaO (l : List Int) (bv : Value) (rb n lo : Nat) (r : Rs) (e : Ending) (w' : World) : Prop := ∃ (y : Tr) (oa : Option Addr) (na : Nat), e = .returned (.agg #[.string y.op, .int .i64 y.val, .string y.nm, .int .i64 y.pos, .int .i64 y.apos, .slice oa na na]) ∧ RaQ l bv rb n lo r y (.slice oa na na) w'
theorem RaQ.st {l : List Int} {bv : Value} {rb n lo : Nat} {r : Rs} {y : Tr} {kv : Value} {w : World} (h : RaQ l bv rb n lo r y kv w) : ∃ k c q, RaS l bv rb k c q w := by
  cases r with
  | ok t nx => obtain ⟨_, _, k, hk, _⟩ := h; exact ⟨k, 0, 0, hk⟩
  | bad c q => obtain ⟨_, k, hk, _⟩ := h; exact ⟨k, c, q, hk⟩
theorem RaQ.move {l : List Int} {bv : Value} {rb n lo n0 lo0 : Nat} {r : Rs} {y : Tr} {kv : Value} {w w' : World} (h : RaQ l bv rb n lo r y kv w) (hb : w'.heap[rb]? = w.heap[rb]?) (hs : Sl w' bv l) (hk : ∀ k, lo ≤ k → k < w.heap.size → w'.heap[k]? = w.heap[k]?) (hlo : lo0 ≤ lo) (hn : n ≤ n0) : RaQ l bv rb n0 lo0 r y kv w' := by
  cases r with
  | ok t nx =>
    obtain ⟨rfl, hi, k, hr, hkl, ht⟩ := h
    exact ⟨rfl, (hi.kept hk _ _).mono hlo _ _, k, ⟨hb.trans hr.blk, hs, hr.len, hr.hi, hr.ap⟩, hkl, ht⟩
  | bad c q =>
    obtain ⟨hc, k, hr, hkl⟩ := h
    exact ⟨hc, k, ⟨hb.trans hr.blk, hs, hr.len, hr.hi, hr.ap⟩, by omega⟩
theorem RaS.sh {l : List Int} {bv : Value} {rb k c q : Nat} {w : World} (h : RaS l bv rb k c q w) : ∃ a cap, bv = .slice a l.length cap ∧ l.length ≤ cap := by
  obtain ⟨hy, hl, ⟨rfl, a, cap, hv⟩ | ⟨x, o, cap, hv, hcl, hcm, hr⟩⟩ := h.sl
  · exact ⟨a, cap, hv, Nat.zero_le _⟩
  · exact ⟨_, cap, hv, hcl⟩
/-- The contracts of the reader's four methods, of so many calls. -/
structure RaC (l : List Int) (bv : Value) (rb n : Nat) : Prop where
  expr : ∀ k res w, rd l n .expr (tok l k) = some res → RaS l bv rb k 0 0 w → k ≤ l.length → Calls Tryz.prog 41 #[.pointer (some ⟨rb, 0, none⟩)] w fun e w' => RaO l bv rb n w.heap.size res e w' ∧ Ch rb w w'
  cond : ∀ k res w, rd l n .cond (tok l k) = some res → RaS l bv rb k 0 0 w → k ≤ l.length → Calls Tryz.prog 77 #[.pointer (some ⟨rb, 0, none⟩)] w fun e w' => RaO l bv rb n w.heap.size res e w' ∧ Ch rb w w'
  bin : ∀ least k res w, rd l n (.bin least) (tok l k) = some res → 1 ≤ least → least ≤ 11 → RaS l bv rb k 0 0 w → k ≤ l.length → Calls Tryz.prog 108 #[.pointer (some ⟨rb, 0, none⟩), .int .i64 (least : Nat)] w fun e w' => RaO l bv rb n w.heap.size res e w' ∧ Ch rb w w'
  opd : ∀ k res w, rd l n .opd (tok l k) = some res → RaS l bv rb k 0 0 w → k ≤ l.length → Calls Tryz.prog 147 #[.pointer (some ⟨rb, 0, none⟩)] w fun e w' => RaO l bv rb n w.heap.size res e w' ∧ Ch rb w w'
theorem Ch.rowNew {rb : Nat} {w w' : World} (h : Ch rb w w') {g : Nat} (hg : w.heap.size ≤ g) (hr : rb < w.heap.size) (c : Array Value) : Ch rb w (w'.setRow g c) := h.setRow hg (by omega) c
theorem RaS.rowNew {l : List Int} {bv : Value} {rb k c q : Nat} {w w' : World} (h : RaS l bv rb k c q w') (h0 : RaS l bv rb k c q w' → Sl w bv l) (hc : Ch rb w w') (hr : rb < w.heap.size) {g : Nat} (hg : w.heap.size ≤ g) (x : Array Value) : RaS l bv rb k c q (w'.setRow g x) :=
  ⟨by
    show (w'.heap.modify g _)[rb]? = _
    rw [Array.getElem?_modify, if_neg (by omega)]
    exact h.blk, sl_chR (h0 h) h.ap (hc.rowNew hg hr x), h.len, h.hi, h.ap⟩

set_option maxRecDepth 100000 in
set_option maxHeartbeats 8000000 in
theorem ra_unx {l : List Int} {bv : Value} {rb k : Nat} {w : World} (h : RaS l bv rb k 0 0 w) (hk : k ≤ l.length) :
    Calls Tryz.prog 43 #[.pointer (some ⟨rb, 0, none⟩)] w fun x w' => x = .returned (zT.v (.slice none 0 0)) ∧ RaS l bv rb (skipN l k) (tok l k).code (tok l k).start w' ∧ 0 < (tok l k).code ∧ Ch rb w w' := by
  have hc0 : 0 < (tok l k).code := by unfold Tk.code; split <;> omega
  have hcode := un_code l k
  have hst := tk_start l k
  rw [hst]
  clear hst
  have hp := skipN_le l k hk
  obtain ⟨W, hW⟩ : ∃ W, W = w.alloc (.cells zA 30) := ⟨_, rfl⟩
  have hb0 : Below w.heap.size w W := by rw [hW]; exact (Below.refl _ _).alloc (Nat.le_refl _) _
  have hG : W.heap[w.heap.size]? = some (.cells zA 30 (0, 0)) := by rw [hW]; exact heap_alloc_last w _
  have HBL := Lib.hid (ra_blank (h.next hb0))
  have HB0 := Lib.hid hb0
  have HG := Lib.hid hG
  have HWE := Lib.hid hW
  have hll := h.len
  have hrw := h.lt
  have HSL := Lib.hid h.sl
  have HZ6 := Lib.hid z6_built
  obtain ⟨p, hpe⟩ : ∃ p, skipN l k = p := ⟨_, rfl⟩
  rw [hpe] at HBL hcode hp ⊢
  have HCO := Lib.hid hcode
  generalize (tok l k).code = cd at *
  clear h hb0 hG hW hpe hcode
  unfold zA at HWE
  go_enter Tryz.func43, Tryz.ntmps43
  go_upto_region 1 with fail
  rw [← HWE.out]
  go_wp2_with fail
  refine HBL.out.mono ?_
  rintro x w1 ⟨rfl, hr1, hc1⟩
  have HR1 := Lib.hid hr1
  have HC1 := Lib.hid ((Ch.of_below HB0.out (Nat.le_of_lt hrw)).trans hc1)
  have HG1 := Lib.hid ((hc1.2 _ (lt_of_heap HG.out) (by omega)).trans HG.out)
  clear hr1 hc1 HBL
  have HX : Hid (∀ X, Below w1.heap.size w1 X → X.cell? ⟨rb, 0, none⟩ = some bv ∧ X.cell? ⟨rb, 1, none⟩ = some (.int .i64 p)) := Lib.hid fun X hX => ⟨(HR1.out.next hX).cells.1, (HR1.out.next hX).cells.2.1⟩
  go_wp2_with fail
  by_cases hlt : p < l.length
  · obtain ⟨x, ox, cap, rfl, hcl, hcm, hrow, hne⟩ := HR1.out.row hlt
    have hlti : (p : Int) < l.length := by omega
    have hdec : decide ((p : Int) < l.length) = true := by simpa using hlti
    have hcp : ¬ cap = p := by omega
    have hpc : p ≤ cap := by omega
    have HCN : Hid (∀ X, Below w1.heap.size w1 X → Calls Tryz.prog 79 #[.slice (some ⟨x, ox + p, none⟩) (l.length - p) (cap - p)] X fun e w' => e = .returned (.tuple #[.int .i64 (cV (l.drop p)), .int .i64 (cN (l.drop p)), .bool (cO (l.drop p))]) ∧ X = w') := Lib.hid fun X hX => by
      have hlx := (HR1.out.next hX).sl
      exact refConst_any _ _ _ (Sl.drop hlx.1 hlx.2.1 hcl hcm (hrow.below hX) p hp)
    clear hrow
    generalize cV (l.drop p) = vv at *
    generalize cN (l.drop p) = nn at *
    generalize cO (l.drop p) = ob at *
    refine Reg.wp_region_vals (fun X => Below w1.heap.size w1 X) (fun j => ([some (.pointer (some ⟨rb, 0, none⟩)), some (.pointer (some ⟨rb, 0, none⟩)), some (.pointer (some ⟨rb, 1, none⟩)), some (.int .i64 p), some (.pointer (some ⟨rb, 0, none⟩)), some (.pointer (some ⟨rb, 0, none⟩)), some (.pointer (some ⟨rb, 0, none⟩)), some (.slice (some ⟨x, ox, none⟩) l.length cap), some (.int .i64 l.length), some (.bool true)] : List (Option Value)).getD j none) (fun _ _ _ => True) (by kernel_rfl) (by kernel_rfl) (by kernel_rfl) (by kernel_rfl) ?rs0 ?rsE ?rsZ
    case rs0 => exact (Below.refl _ _).drew
    case rsE =>
      refine Reg.EachV.plain rfl (fun T X hS hk K hK => ?_) ?_
      · skip
        have g0 : T[0]? = some (.pointer (some ⟨rb, 0, none⟩)) := hk.old 0 (by kernel_rfl) rfl
        have hK := hK _ X hS (Reg.Is.of_val rfl) (fun _ _ _ h => h)
        clear hk
        go_simp
        exact hK
      refine Reg.EachV.plain rfl (fun T X hS hk K hK => ?_) ?_
      · skip
        have g9 : T[9]? = some (.pointer (some ⟨rb, 0, none⟩)) := hk.val 0 9 (by kernel_rfl) (by kernel_rfl) rfl
        have hK := hK _ X hS (Reg.Is.of_val rfl) (fun _ _ _ h => h)
        clear hk
        go_simp
        exact hK
      refine Reg.EachV.plain rfl (fun T X hS hk K hK => ?_) ?_
      · skip
        have g10 : T[10]? = some (.pointer (some ⟨rb, 0, none⟩)) := hk.val 1 10 (by kernel_rfl) (by kernel_rfl) rfl
        have hK := hK _ X hS (Reg.Is.of_val rfl) (fun _ _ _ h => h)
        clear hk
        go_simp
        exact hK
      refine Reg.EachV.plain rfl (fun T X hS hk K hK => ?_) ?_
      · skip
        have g11 : T[11]? = some (.pointer (some ⟨rb, 1, none⟩)) := hk.val 2 11 (by kernel_rfl) (by kernel_rfl) rfl
        obtain ⟨e0, e1⟩ := HX.out X hS
        have hK := hK _ X hS (Reg.Is.of_val rfl) (fun _ _ _ h => h)
        clear hk
        go_simp
        exact hK
      refine Reg.EachV.plain rfl (fun T X hS hk K hK => ?_) ?_
      · skip
        have g0 : T[0]? = some (.pointer (some ⟨rb, 0, none⟩)) := hk.old 0 (by kernel_rfl) rfl
        have hK := hK _ X hS (Reg.Is.of_val rfl) (fun _ _ _ h => h)
        clear hk
        go_simp
        exact hK
      refine Reg.EachV.plain rfl (fun T X hS hk K hK => ?_) ?_
      · skip
        have g13 : T[13]? = some (.pointer (some ⟨rb, 0, none⟩)) := hk.val 4 13 (by kernel_rfl) (by kernel_rfl) rfl
        have hK := hK _ X hS (Reg.Is.of_val rfl) (fun _ _ _ h => h)
        clear hk
        go_simp
        exact hK
      refine Reg.EachV.plain rfl (fun T X hS hk K hK => ?_) ?_
      · skip
        have g14 : T[14]? = some (.pointer (some ⟨rb, 0, none⟩)) := hk.val 5 14 (by kernel_rfl) (by kernel_rfl) rfl
        have hK := hK _ X hS (Reg.Is.of_val rfl) (fun _ _ _ h => h)
        clear hk
        go_simp
        exact hK
      refine Reg.EachV.plain rfl (fun T X hS hk K hK => ?_) ?_
      · skip
        have g15 : T[15]? = some (.pointer (some ⟨rb, 0, none⟩)) := hk.val 6 15 (by kernel_rfl) (by kernel_rfl) rfl
        obtain ⟨e0, e1⟩ := HX.out X hS
        have hK := hK _ X hS (Reg.Is.of_val rfl) (fun _ _ _ h => h)
        clear hk
        go_simp
        exact hK
      refine Reg.EachV.plain rfl (fun T X hS hk K hK => ?_) ?_
      · skip
        have g16 : T[16]? = some (.slice (some ⟨x, ox, none⟩) l.length cap) := hk.val 7 16 (by kernel_rfl) (by kernel_rfl) rfl
        have hK := hK _ X hS (Reg.Is.of_val rfl) (fun _ _ _ h => h)
        clear hk
        go_simp
        exact hK
      refine Reg.EachV.plain rfl (fun T X hS hk K hK => ?_) ?_
      · skip
        have g12 : T[12]? = some (.int .i64 p) := hk.val 3 12 (by kernel_rfl) (by kernel_rfl) rfl
        have g17 : T[17]? = some (.int .i64 l.length) := hk.val 8 17 (by kernel_rfl) (by kernel_rfl) rfl
        have hK := hK _ X hS (Reg.Is.of_val rfl) (fun _ _ _ h => h)
        clear hk
        go_simp
        exact hK
      exact Reg.EachV.nil
    case rsZ =>
      intro u w3 hS hI
      have e0 : u 0 = .pointer (some ⟨rb, 0, none⟩) := (hI 0 (by decide)).val rfl
      have e1 : u 1 = .pointer (some ⟨rb, 0, none⟩) := (hI 1 (by decide)).val rfl
      have e2 : u 2 = .pointer (some ⟨rb, 1, none⟩) := (hI 2 (by decide)).val rfl
      have e3 : u 3 = .int .i64 p := (hI 3 (by decide)).val rfl
      have e4 : u 4 = .pointer (some ⟨rb, 0, none⟩) := (hI 4 (by decide)).val rfl
      have e5 : u 5 = .pointer (some ⟨rb, 0, none⟩) := (hI 5 (by decide)).val rfl
      have e6 : u 6 = .pointer (some ⟨rb, 0, none⟩) := (hI 6 (by decide)).val rfl
      have e7 : u 7 = .slice (some ⟨x, ox, none⟩) l.length cap := (hI 7 (by decide)).val rfl
      have e8 : u 8 = .int .i64 l.length := (hI 8 (by decide)).val rfl
      have e9 : u 9 = .bool true := (hI 9 (by decide)).val rfl
      clear hI
      simp only [Reg.putAll, Act.put, List.setIfInBounds_toArray, List.set_cons_succ, List.set_cons_zero, Nat.zero_add, Nat.reduceAdd, e0, e1, e2, e3, e4, e5, e6, e7, e8, e9]
      clear e0 e1 e2 e3 e4 e5 e6 e7 e8 e9
      have HZ3 := Lib.hid hS
      clear hS
      go_wp2_with fail
      refine Reg.wp_region_vals (fun X => Below w1.heap.size w1 X) (fun j => ([some (.pointer (some ⟨rb, 0, none⟩)), some (.pointer (some ⟨rb, 0, none⟩)), some (.pointer (some ⟨rb, 0, none⟩)), some (.slice (some ⟨x, ox, none⟩) l.length cap), some (.pointer (some ⟨rb, 0, none⟩)), some (.pointer (some ⟨rb, 0, none⟩)), some (.pointer (some ⟨rb, 1, none⟩)), some (.int .i64 p), some (.slice (some ⟨x, ox + p, none⟩) (l.length - p) (cap - p)), some (.tuple #[.int .i64 vv, .int .i64 nn, .bool ob]), some (.tuple #[.int .i64 vv, .int .i64 nn, .bool ob]), some (.int .i64 vv), some (.int .i64 nn), some (.bool ob), some (.int .i64 vv), some (.int .i64 nn), some (.bool ob)] : List (Option Value)).getD j none) (fun _ _ _ => True) (by kernel_rfl) (by kernel_rfl) (by kernel_rfl) (by kernel_rfl) ?rs0 ?rsE ?rsZ
      case rs0 => exact HZ3.out.drew
      case rsE =>
        refine Reg.EachV.plain rfl (fun T X hS hk K hK => ?_) ?_
        · skip
          have g0 : T[0]? = some (.pointer (some ⟨rb, 0, none⟩)) := hk.old 0 (by kernel_rfl) rfl
          have hK := hK _ X hS (Reg.Is.of_val rfl) (fun _ _ _ h => h)
          clear hk
          go_simp
          exact hK
        refine Reg.EachV.plain rfl (fun T X hS hk K hK => ?_) ?_
        · skip
          have g20 : T[20]? = some (.pointer (some ⟨rb, 0, none⟩)) := hk.val 0 20 (by kernel_rfl) (by kernel_rfl) rfl
          have hK := hK _ X hS (Reg.Is.of_val rfl) (fun _ _ _ h => h)
          clear hk
          go_simp
          exact hK
        refine Reg.EachV.plain rfl (fun T X hS hk K hK => ?_) ?_
        · skip
          have g21 : T[21]? = some (.pointer (some ⟨rb, 0, none⟩)) := hk.val 1 21 (by kernel_rfl) (by kernel_rfl) rfl
          have hK := hK _ X hS (Reg.Is.of_val rfl) (fun _ _ _ h => h)
          clear hk
          go_simp
          exact hK
        refine Reg.EachV.plain rfl (fun T X hS hk K hK => ?_) ?_
        · skip
          have g22 : T[22]? = some (.pointer (some ⟨rb, 0, none⟩)) := hk.val 2 22 (by kernel_rfl) (by kernel_rfl) rfl
          obtain ⟨e0, e1⟩ := HX.out X hS
          have hK := hK _ X hS (Reg.Is.of_val rfl) (fun _ _ _ h => h)
          clear hk
          go_simp
          exact hK
        refine Reg.EachV.plain rfl (fun T X hS hk K hK => ?_) ?_
        · skip
          have g0 : T[0]? = some (.pointer (some ⟨rb, 0, none⟩)) := hk.old 0 (by kernel_rfl) rfl
          have hK := hK _ X hS (Reg.Is.of_val rfl) (fun _ _ _ h => h)
          clear hk
          go_simp
          exact hK
        refine Reg.EachV.plain rfl (fun T X hS hk K hK => ?_) ?_
        · skip
          have g24 : T[24]? = some (.pointer (some ⟨rb, 0, none⟩)) := hk.val 4 24 (by kernel_rfl) (by kernel_rfl) rfl
          have hK := hK _ X hS (Reg.Is.of_val rfl) (fun _ _ _ h => h)
          clear hk
          go_simp
          exact hK
        refine Reg.EachV.plain rfl (fun T X hS hk K hK => ?_) ?_
        · skip
          have g25 : T[25]? = some (.pointer (some ⟨rb, 0, none⟩)) := hk.val 5 25 (by kernel_rfl) (by kernel_rfl) rfl
          have hK := hK _ X hS (Reg.Is.of_val rfl) (fun _ _ _ h => h)
          clear hk
          go_simp
          exact hK
        refine Reg.EachV.plain rfl (fun T X hS hk K hK => ?_) ?_
        · skip
          have g26 : T[26]? = some (.pointer (some ⟨rb, 1, none⟩)) := hk.val 6 26 (by kernel_rfl) (by kernel_rfl) rfl
          obtain ⟨e0, e1⟩ := HX.out X hS
          have hK := hK _ X hS (Reg.Is.of_val rfl) (fun _ _ _ h => h)
          clear hk
          go_simp
          exact hK
        refine Reg.EachV.plain rfl (fun T X hS hk K hK => ?_) ?_
        · skip
          have g23 : T[23]? = some (.slice (some ⟨x, ox, none⟩) l.length cap) := hk.val 3 23 (by kernel_rfl) (by kernel_rfl) rfl
          have g27 : T[27]? = some (.int .i64 p) := hk.val 7 27 (by kernel_rfl) (by kernel_rfl) rfl
          have hK := hK _ X hS (Reg.Is.of_val rfl) (fun _ _ _ h => h)
          clear hk
          go_simp
          exact hK
        refine Reg.EachV.plain rfl (fun T X hS hk K hK => ?_) ?_
        · skip
          have g28 : T[28]? = some (.slice (some ⟨x, ox + p, none⟩) (l.length - p) (cap - p)) := hk.val 8 28 (by kernel_rfl) (by kernel_rfl) rfl
          clear hk
          go_simp
          refine (HCN.out X hS).mono ?_
          rintro e w1 ⟨rfl, hb⟩
          exact hK _ _ (hb ▸ hS) (Reg.Is.of_val rfl) (fun _ _ _ h => h)
        refine Reg.EachV.plain rfl (fun T X hS hk K hK => ?_) ?_
        · skip
          have g29 : T[29]? = some (.tuple #[.int .i64 vv, .int .i64 nn, .bool ob]) := hk.val 9 29 (by kernel_rfl) (by kernel_rfl) rfl
          have hK := hK _ X hS (Reg.Is.of_val rfl) (fun _ _ _ h => h)
          clear hk
          go_simp
          exact hK
        refine Reg.EachV.plain rfl (fun T X hS hk K hK => ?_) ?_
        · skip
          have g19 : T[19]? = some (.tuple #[.int .i64 vv, .int .i64 nn, .bool ob]) := hk.val 10 19 (by kernel_rfl) (by kernel_rfl) rfl
          have hK := hK _ X hS (Reg.Is.of_val rfl) (fun _ _ _ h => h)
          clear hk
          go_simp
          exact hK
        refine Reg.EachV.plain rfl (fun T X hS hk K hK => ?_) ?_
        · skip
          have g19 : T[19]? = some (.tuple #[.int .i64 vv, .int .i64 nn, .bool ob]) := hk.val 10 19 (by kernel_rfl) (by kernel_rfl) rfl
          have hK := hK _ X hS (Reg.Is.of_val rfl) (fun _ _ _ h => h)
          clear hk
          go_simp
          exact hK
        refine Reg.EachV.plain rfl (fun T X hS hk K hK => ?_) ?_
        · skip
          have g19 : T[19]? = some (.tuple #[.int .i64 vv, .int .i64 nn, .bool ob]) := hk.val 10 19 (by kernel_rfl) (by kernel_rfl) rfl
          have hK := hK _ X hS (Reg.Is.of_val rfl) (fun _ _ _ h => h)
          clear hk
          go_simp
          exact hK
        refine Reg.EachV.plain rfl (fun T X hS hk K hK => ?_) ?_
        · skip
          have g30 : T[30]? = some (.int .i64 vv) := hk.val 11 30 (by kernel_rfl) (by kernel_rfl) rfl
          have hK := hK _ X hS (Reg.Is.of_val rfl) (fun _ _ _ h => h)
          clear hk
          go_simp
          exact hK
        refine Reg.EachV.plain rfl (fun T X hS hk K hK => ?_) ?_
        · skip
          have g31 : T[31]? = some (.int .i64 nn) := hk.val 12 31 (by kernel_rfl) (by kernel_rfl) rfl
          have hK := hK _ X hS (Reg.Is.of_val rfl) (fun _ _ _ h => h)
          clear hk
          go_simp
          exact hK
        refine Reg.EachV.plain rfl (fun T X hS hk K hK => ?_) ?_
        · skip
          have g32 : T[32]? = some (.bool ob) := hk.val 13 32 (by kernel_rfl) (by kernel_rfl) rfl
          have hK := hK _ X hS (Reg.Is.of_val rfl) (fun _ _ _ h => h)
          clear hk
          go_simp
          exact hK
        exact Reg.EachV.nil
      case rsZ =>
        intro u w4 hS hI
        have e0 : u 0 = .pointer (some ⟨rb, 0, none⟩) := (hI 0 (by decide)).val rfl
        have e1 : u 1 = .pointer (some ⟨rb, 0, none⟩) := (hI 1 (by decide)).val rfl
        have e2 : u 2 = .pointer (some ⟨rb, 0, none⟩) := (hI 2 (by decide)).val rfl
        have e3 : u 3 = .slice (some ⟨x, ox, none⟩) l.length cap := (hI 3 (by decide)).val rfl
        have e4 : u 4 = .pointer (some ⟨rb, 0, none⟩) := (hI 4 (by decide)).val rfl
        have e5 : u 5 = .pointer (some ⟨rb, 0, none⟩) := (hI 5 (by decide)).val rfl
        have e6 : u 6 = .pointer (some ⟨rb, 1, none⟩) := (hI 6 (by decide)).val rfl
        have e7 : u 7 = .int .i64 p := (hI 7 (by decide)).val rfl
        have e8 : u 8 = .slice (some ⟨x, ox + p, none⟩) (l.length - p) (cap - p) := (hI 8 (by decide)).val rfl
        have e9 : u 9 = .tuple #[.int .i64 vv, .int .i64 nn, .bool ob] := (hI 9 (by decide)).val rfl
        have e10 : u 10 = .tuple #[.int .i64 vv, .int .i64 nn, .bool ob] := (hI 10 (by decide)).val rfl
        have e11 : u 11 = .int .i64 vv := (hI 11 (by decide)).val rfl
        have e12 : u 12 = .int .i64 nn := (hI 12 (by decide)).val rfl
        have e13 : u 13 = .bool ob := (hI 13 (by decide)).val rfl
        have e14 : u 14 = .int .i64 vv := (hI 14 (by decide)).val rfl
        have e15 : u 15 = .int .i64 nn := (hI 15 (by decide)).val rfl
        have e16 : u 16 = .bool ob := (hI 16 (by decide)).val rfl
        clear hI
        simp only [Reg.putAll, Act.put, List.setIfInBounds_toArray, List.set_cons_succ, List.set_cons_zero, Nat.zero_add, Nat.reduceAdd, e0, e1, e2, e3, e4, e5, e6, e7, e8, e9, e10, e11, e12, e13, e14, e15, e16]
        clear e0 e1 e2 e3 e4 e5 e6 e7 e8 e9 e10 e11 e12 e13 e14 e15 e16
        have HZ4 := Lib.hid hS
        clear hS
        by_cases hn : 0 < nn
        · have hni : (0 : Int) < nn := by omega
          cases ob
          · skip
            have HF := Lib.hid (ra_fail0 (HR1.out.next HZ4.out) 3 p (by decide))
            have HGZ := Lib.hid ((HZ4.out.block _ (lt_of_heap HG1.out)).trans HG1.out)
            have HCZ := Lib.hid (HC1.out.step HZ4.out (Nat.le_of_lt HR1.out.lt))
            obtain ⟨e0, e1⟩ := HX.out w4 HZ4.out
            go_wp2_with fail
            refine HF.out.mono ?_
            rintro x2 wf ⟨rfl, hrf, hcf⟩
            have HRF := Lib.hid hrf
            have HGF := Lib.hid ((hcf.2 _ (lt_of_heap HGZ.out) (by omega)).trans HGZ.out)
            have HCF := Lib.hid (HCZ.out.trans hcf)
            clear hrf hcf HF
            go_wp2_with (first | (refine wpList_buildTo rfl 30 _ rfl _ rfl _ HZ6.out ?_) | (refine wpList_store_ar rfl _ _ rfl rfl w.heap.size ⟨#[]⟩ 0 ⟨#[]⟩ 0 0 (.slice none 0 0) rfl rfl rfl _ HGF.out rfl ?_) | fail)
            refine bodyPost_ret (results_ar rfl _ _ w.heap.size _ rfl (setRow_self HGF.out _) rfl) rfl ⟨rfl, ?_, hc0, HCF.out.rowNew (Nat.le_refl _) hrw _⟩
            have hcd := HCO.out
            rw [if_neg (by simp)] at hcd
            subst hcd
            exact HRF.out.rowNew (fun _ => HSL.out) HCF.out hrw (Nat.le_refl _) _
          · skip
            have HF := Lib.hid (ra_fail0 (HR1.out.next HZ4.out) 6 p (by decide))
            have HGZ := Lib.hid ((HZ4.out.block _ (lt_of_heap HG1.out)).trans HG1.out)
            have HCZ := Lib.hid (HC1.out.step HZ4.out (Nat.le_of_lt HR1.out.lt))
            obtain ⟨e0, e1⟩ := HX.out w4 HZ4.out
            go_wp2_with fail
            refine HF.out.mono ?_
            rintro x2 wf ⟨rfl, hrf, hcf⟩
            have HRF := Lib.hid hrf
            have HGF := Lib.hid ((hcf.2 _ (lt_of_heap HGZ.out) (by omega)).trans HGZ.out)
            have HCF := Lib.hid (HCZ.out.trans hcf)
            clear hrf hcf HF
            go_wp2_with (first | (refine wpList_buildTo rfl 30 _ rfl _ rfl _ HZ6.out ?_) | (refine wpList_store_ar rfl _ _ rfl rfl w.heap.size ⟨#[]⟩ 0 ⟨#[]⟩ 0 0 (.slice none 0 0) rfl rfl rfl _ HGF.out rfl ?_) | fail)
            refine bodyPost_ret (results_ar rfl _ _ w.heap.size _ rfl (setRow_self HGF.out _) rfl) rfl ⟨rfl, ?_, hc0, HCF.out.rowNew (Nat.le_refl _) hrw _⟩
            have hcd := HCO.out
            rw [if_pos ⟨hn, by simp⟩] at hcd
            subst hcd
            exact HRF.out.rowNew (fun _ => HSL.out) HCF.out hrw (Nat.le_refl _) _
        · have hni : ¬ (0 : Int) < nn := by omega
          skip
          have HF := Lib.hid (ra_fail0 (HR1.out.next HZ4.out) 3 p (by decide))
          have HGZ := Lib.hid ((HZ4.out.block _ (lt_of_heap HG1.out)).trans HG1.out)
          have HCZ := Lib.hid (HC1.out.step HZ4.out (Nat.le_of_lt HR1.out.lt))
          obtain ⟨e0, e1⟩ := HX.out w4 HZ4.out
          go_wp2_with fail
          refine HF.out.mono ?_
          rintro x2 wf ⟨rfl, hrf, hcf⟩
          have HRF := Lib.hid hrf
          have HGF := Lib.hid ((hcf.2 _ (lt_of_heap HGZ.out) (by omega)).trans HGZ.out)
          have HCF := Lib.hid (HCZ.out.trans hcf)
          clear hrf hcf HF
          go_wp2_with (first | (refine wpList_buildTo rfl 30 _ rfl _ rfl _ HZ6.out ?_) | (refine wpList_store_ar rfl _ _ rfl rfl w.heap.size ⟨#[]⟩ 0 ⟨#[]⟩ 0 0 (.slice none 0 0) rfl rfl rfl _ HGF.out rfl ?_) | fail)
          refine bodyPost_ret (results_ar rfl _ _ w.heap.size _ rfl (setRow_self HGF.out _) rfl) rfl ⟨rfl, ?_, hc0, HCF.out.rowNew (Nat.le_refl _) hrw _⟩
          have hcd := HCO.out
          rw [if_neg (fun h => hn h.1)] at hcd
          subst hcd
          exact HRF.out.rowNew (fun _ => HSL.out) HCF.out hrw (Nat.le_refl _) _
  · obtain ⟨aa, cap, rfl⟩ := HR1.out.shape
    have hlti : ¬ (p : Int) < l.length := by omega
    have hdec : decide ((p : Int) < l.length) = false := by simpa using hlti
    have hcN : cN (l.drop p) = 0 := by rw [List.drop_eq_nil_of_le (by omega)]; exact cN_zero (fun x m e => by cases e)
    refine Reg.wp_region_vals (fun X => Below w1.heap.size w1 X) (fun j => ([some (.pointer (some ⟨rb, 0, none⟩)), some (.pointer (some ⟨rb, 0, none⟩)), some (.pointer (some ⟨rb, 1, none⟩)), some (.int .i64 p), some (.pointer (some ⟨rb, 0, none⟩)), some (.pointer (some ⟨rb, 0, none⟩)), some (.pointer (some ⟨rb, 0, none⟩)), some (.slice aa l.length cap), some (.int .i64 l.length), some (.bool false)] : List (Option Value)).getD j none) (fun _ _ _ => True) (by kernel_rfl) (by kernel_rfl) (by kernel_rfl) (by kernel_rfl) ?rs0 ?rsE ?rsZ
    case rs0 => exact (Below.refl _ _).drew
    case rsE =>
      refine Reg.EachV.plain rfl (fun T X hS hk K hK => ?_) ?_
      · skip
        have g0 : T[0]? = some (.pointer (some ⟨rb, 0, none⟩)) := hk.old 0 (by kernel_rfl) rfl
        have hK := hK _ X hS (Reg.Is.of_val rfl) (fun _ _ _ h => h)
        clear hk
        go_simp
        exact hK
      refine Reg.EachV.plain rfl (fun T X hS hk K hK => ?_) ?_
      · skip
        have g9 : T[9]? = some (.pointer (some ⟨rb, 0, none⟩)) := hk.val 0 9 (by kernel_rfl) (by kernel_rfl) rfl
        have hK := hK _ X hS (Reg.Is.of_val rfl) (fun _ _ _ h => h)
        clear hk
        go_simp
        exact hK
      refine Reg.EachV.plain rfl (fun T X hS hk K hK => ?_) ?_
      · skip
        have g10 : T[10]? = some (.pointer (some ⟨rb, 0, none⟩)) := hk.val 1 10 (by kernel_rfl) (by kernel_rfl) rfl
        have hK := hK _ X hS (Reg.Is.of_val rfl) (fun _ _ _ h => h)
        clear hk
        go_simp
        exact hK
      refine Reg.EachV.plain rfl (fun T X hS hk K hK => ?_) ?_
      · skip
        have g11 : T[11]? = some (.pointer (some ⟨rb, 1, none⟩)) := hk.val 2 11 (by kernel_rfl) (by kernel_rfl) rfl
        obtain ⟨e0, e1⟩ := HX.out X hS
        have hK := hK _ X hS (Reg.Is.of_val rfl) (fun _ _ _ h => h)
        clear hk
        go_simp
        exact hK
      refine Reg.EachV.plain rfl (fun T X hS hk K hK => ?_) ?_
      · skip
        have g0 : T[0]? = some (.pointer (some ⟨rb, 0, none⟩)) := hk.old 0 (by kernel_rfl) rfl
        have hK := hK _ X hS (Reg.Is.of_val rfl) (fun _ _ _ h => h)
        clear hk
        go_simp
        exact hK
      refine Reg.EachV.plain rfl (fun T X hS hk K hK => ?_) ?_
      · skip
        have g13 : T[13]? = some (.pointer (some ⟨rb, 0, none⟩)) := hk.val 4 13 (by kernel_rfl) (by kernel_rfl) rfl
        have hK := hK _ X hS (Reg.Is.of_val rfl) (fun _ _ _ h => h)
        clear hk
        go_simp
        exact hK
      refine Reg.EachV.plain rfl (fun T X hS hk K hK => ?_) ?_
      · skip
        have g14 : T[14]? = some (.pointer (some ⟨rb, 0, none⟩)) := hk.val 5 14 (by kernel_rfl) (by kernel_rfl) rfl
        have hK := hK _ X hS (Reg.Is.of_val rfl) (fun _ _ _ h => h)
        clear hk
        go_simp
        exact hK
      refine Reg.EachV.plain rfl (fun T X hS hk K hK => ?_) ?_
      · skip
        have g15 : T[15]? = some (.pointer (some ⟨rb, 0, none⟩)) := hk.val 6 15 (by kernel_rfl) (by kernel_rfl) rfl
        obtain ⟨e0, e1⟩ := HX.out X hS
        have hK := hK _ X hS (Reg.Is.of_val rfl) (fun _ _ _ h => h)
        clear hk
        go_simp
        exact hK
      refine Reg.EachV.plain rfl (fun T X hS hk K hK => ?_) ?_
      · skip
        have g16 : T[16]? = some (.slice aa l.length cap) := hk.val 7 16 (by kernel_rfl) (by kernel_rfl) rfl
        have hK := hK _ X hS (Reg.Is.of_val rfl) (fun _ _ _ h => h)
        clear hk
        go_simp
        exact hK
      refine Reg.EachV.plain rfl (fun T X hS hk K hK => ?_) ?_
      · skip
        have g12 : T[12]? = some (.int .i64 p) := hk.val 3 12 (by kernel_rfl) (by kernel_rfl) rfl
        have g17 : T[17]? = some (.int .i64 l.length) := hk.val 8 17 (by kernel_rfl) (by kernel_rfl) rfl
        have hK := hK _ X hS (Reg.Is.of_val rfl) (fun _ _ _ h => h)
        clear hk
        go_simp
        exact hK
      exact Reg.EachV.nil
    case rsZ =>
      intro u w3 hS hI
      have e0 : u 0 = .pointer (some ⟨rb, 0, none⟩) := (hI 0 (by decide)).val rfl
      have e1 : u 1 = .pointer (some ⟨rb, 0, none⟩) := (hI 1 (by decide)).val rfl
      have e2 : u 2 = .pointer (some ⟨rb, 1, none⟩) := (hI 2 (by decide)).val rfl
      have e3 : u 3 = .int .i64 p := (hI 3 (by decide)).val rfl
      have e4 : u 4 = .pointer (some ⟨rb, 0, none⟩) := (hI 4 (by decide)).val rfl
      have e5 : u 5 = .pointer (some ⟨rb, 0, none⟩) := (hI 5 (by decide)).val rfl
      have e6 : u 6 = .pointer (some ⟨rb, 0, none⟩) := (hI 6 (by decide)).val rfl
      have e7 : u 7 = .slice aa l.length cap := (hI 7 (by decide)).val rfl
      have e8 : u 8 = .int .i64 l.length := (hI 8 (by decide)).val rfl
      have e9 : u 9 = .bool false := (hI 9 (by decide)).val rfl
      clear hI
      simp only [Reg.putAll, Act.put, List.setIfInBounds_toArray, List.set_cons_succ, List.set_cons_zero, Nat.zero_add, Nat.reduceAdd, e0, e1, e2, e3, e4, e5, e6, e7, e8, e9]
      clear e0 e1 e2 e3 e4 e5 e6 e7 e8 e9
      have HZ3 := Lib.hid hS
      clear hS
      have HF := Lib.hid (ra_fail0 (HR1.out.next HZ3.out) 3 p (by decide))
      have HGZ := Lib.hid ((HZ3.out.block _ (lt_of_heap HG1.out)).trans HG1.out)
      have HCZ := Lib.hid (HC1.out.step HZ3.out (Nat.le_of_lt HR1.out.lt))
      obtain ⟨e0, e1⟩ := HX.out w3 HZ3.out
      go_wp2_with fail
      refine HF.out.mono ?_
      rintro x2 wf ⟨rfl, hrf, hcf⟩
      have HRF := Lib.hid hrf
      have HGF := Lib.hid ((hcf.2 _ (lt_of_heap HGZ.out) (by omega)).trans HGZ.out)
      have HCF := Lib.hid (HCZ.out.trans hcf)
      clear hrf hcf HF
      go_wp2_with (first | (refine wpList_buildTo rfl 30 _ rfl _ rfl _ HZ6.out ?_) | (refine wpList_store_ar rfl _ _ rfl rfl w.heap.size ⟨#[]⟩ 0 ⟨#[]⟩ 0 0 (.slice none 0 0) rfl rfl rfl _ HGF.out rfl ?_) | fail)
      refine bodyPost_ret (results_ar rfl _ _ w.heap.size _ rfl (setRow_self HGF.out _) rfl) rfl ⟨rfl, ?_, hc0, HCF.out.rowNew (Nat.le_refl _) hrw _⟩
      have hcd := HCO.out
      rw [if_neg (fun h => by omega)] at hcd
      subst hcd
      exact HRF.out.rowNew (fun _ => HSL.out) HCF.out hrw (Nat.le_refl _) _
end Go.Proofs.YtacfglopionkfaaGreatDoor
