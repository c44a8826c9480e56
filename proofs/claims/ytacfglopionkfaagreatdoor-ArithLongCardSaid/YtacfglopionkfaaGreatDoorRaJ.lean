/- The reference's Parse of arithmetic tells what reading tells. -/
import Derived.Test.YtacfglopionkfaaGreatDoorRaI
import Derived.Test.YtacfglopionkfaaGreatDoorKPa
namespace Go.Proofs.YtacfglopionkfaaGreatDoor
open Go.RowKit

theorem ft_info : (Tryz.prog.info? 32).map (·.size) = some 3 := by kernel_rfl
theorem wpList_store_ft {ops : Array Oper} {rest : List Oper} {o : Oper} {a : Act} {w : World} {Q : Exit → Act → World → Prop} (hgd : o.guard = none) (x y : Operand) (ho : o.op = .store 32 x y)
    (hd : o.dst = none) (g : Nat) (c p q : Int) (hx : a.eval x = .pointer (some ⟨g, 0, none⟩)) (hy : a.eval y = .agg #[.int .i64 c, .int .i64 p, .int .i64 q])
    (old : Array Value) (hg : w.heap[g]? = some (.cells old 32 (0, 0))) (hold : old.size = 3)
    (h : wpList Tryz.prog ops Q rest a (w.setRow g #[.int .i64 c, .int .i64 p, .int .i64 q])) : wpList Tryz.prog ops Q (o :: rest) a w :=
  wpList_store_rowTo hgd _ x y ho hd g _ hx hy _ old hg ft_info hold (by simp [Value.oneCell']) h
theorem results_af {fn : Func} {p q : Tmp} (h : fn.results = #[.cell p 30, .cell q 32]) (tmps : Array Value) (w : World) (g f : Nat) (cs ds : Array Value)
    (hp : tmps.getD p undef = .pointer (some ⟨g, 0, none⟩)) (hq : tmps.getD q undef = .pointer (some ⟨f, 0, none⟩)) (hg : w.heap[g]? = some (.cells cs 30 (0, 0))) (hf : w.heap[f]? = some (.cells ds 32 (0, 0))) (hs : cs.size = 6) (ht : ds.size = 3) :
    (results fn tmps).run Tryz.prog w = .ok (.tuple #[.agg cs, .agg ds]) w := by
  have hp' : tmps[p]?.getD undef = .pointer (some ⟨g, 0, none⟩) := by simpa using hp
  have hq' : tmps[q]?.getD undef = .pointer (some ⟨f, 0, none⟩) := by simpa using hq
  have h1 := run_loadVar_row (P := Tryz.prog) w g 30 30 cs (0, 0) _ hg Tryz.underlying30 rfl (by rw [hs]; exact ar_info)
  have h2 := run_loadVar_row (P := Tryz.prog) w f 32 32 ds (0, 0) _ hf Tryz.underlying32 rfl (by rw [ht]; exact ft_info)
  simp [results, h, hp', hq', asAddr, h1, h2]
/-- What Parse of the reference tells. -/
def PsO (lo : Nat) : Rs → Ending → World → Prop
  | .ok t _, e, w' => ∃ (oa : Option Addr) (na : Nat), e = .returned (.tuple #[.agg #[.string t.op, .int .i64 t.val, .string t.nm, .int .i64 t.pos, .int .i64 t.apos, .slice oa na na], .agg #[.int .i64 0, .int .i64 0, .int .i64 0]]) ∧ t.In w' lo (.slice oa na na)
  | .bad c q, e, _ => 0 < c ∧ e = .returned (.tuple #[.agg zA, .agg #[.int .i64 c, .int .i64 q, .int .i64 1]])
theorem ft_built : Tryz.prog.built 32 [] = some #[.int .i64 0, .int .i64 0, .int .i64 0] := by kernel_rfl
def zF : Obj := .cells #[.int .i64 0, .int .i64 0, .int .i64 0] 32

set_option maxRecDepth 100000 in
set_option maxHeartbeats 8000000 in
theorem ra_parse_long (v : Value) (l : List Int) (w : World) (hlong : 1024 < l.length) (hs : Sl w v l) :
    Calls Tryz.prog 10 #[v] w fun e w' => PsO w.heap.size (.bad 2 0) e w' ∧ Below w.heap.size w w' := by
  obtain ⟨aa, cap, rfl⟩ : ∃ a cap, v = .slice a l.length cap := by
    obtain ⟨hy, hl, ⟨rfl, a, cap, hv⟩ | ⟨x, o, cap, hv, hcl, hcm, hr⟩⟩ := hs
    · exact ⟨a, cap, hv⟩
    · exact ⟨_, cap, hv⟩
  obtain ⟨W, hW⟩ : ∃ W, W = (w.alloc zrO).alloc zF := ⟨_, rfl⟩
  have HB0 : Hid (Below w.heap.size w W) := Lib.hid (by rw [hW]; exact ((Below.refl _ _).alloc (Nat.le_refl _) _).alloc (by simp) _)
  have HG : Hid (W.heap[w.heap.size]? = some zrO) := Lib.hid (by rw [hW]; exact alloc_keeps (heap_alloc_last w _) _)
  have HF : Hid (W.heap[w.heap.size + 1]? = some zF) := Lib.hid (by rw [hW]; have := heap_alloc_last (w.alloc zrO) zF; simpa using this)
  have HWE := Lib.hid hW
  have hli : (1024 : Int) < l.length := by omega
  have HZ6 := Lib.hid z6_built
  clear hs hW
  unfold zrO zF at HWE
  go_enter Tryz.func10, Tryz.ntmps10
  go_upto_region 1 with fail
  rw [← HWE.out]
  go_wp2_with (first | (refine wpList_buildTo rfl 30 _ rfl _ rfl _ HZ6.out ?_) | fail)
  refine (raF_any 2 0 1 _).mono ?_
  rintro x w2 ⟨rfl, hb2⟩
  have hs1 := lt_of_heap HF.out
  have HB2 := Lib.hid (HB0.out.trans (hb2.mono HB0.out.size))
  have HG2 := Lib.hid ((hb2.block _ (by omega)).trans HG.out)
  have HF2 := Lib.hid ((hb2.block _ (by omega)).trans HF.out)
  have HF3 : Hid (∀ c, (w2.setRow w.heap.size c).heap[w.heap.size + 1]? = some zF) := Lib.hid fun c => by
    show (w2.heap.modify w.heap.size _)[w.heap.size + 1]? = _
    rw [Array.getElem?_modify, if_neg (by omega)]
    exact HF2.out
  have HG3 : Hid (∀ c d, ((w2.setRow w.heap.size c).setRow (w.heap.size + 1) d).heap[w.heap.size]? = some (.cells c 30 (0, 0))) := Lib.hid fun c d => by
    show ((w2.setRow w.heap.size c).heap.modify (w.heap.size + 1) _)[w.heap.size]? = _
    rw [Array.getElem?_modify, if_neg (by omega)]
    exact setRow_self HG2.out c
  unfold zrO at HG2
  unfold zF at HF3
  clear hb2
  go_wp2_with (first | (refine wpList_store_ar rfl _ _ rfl rfl w.heap.size ⟨#[]⟩ 0 ⟨#[]⟩ 0 0 (.slice none 0 0) rfl rfl rfl _ HG2.out rfl ?_) | (refine wpList_store_ft rfl _ _ rfl rfl (w.heap.size + 1) 2 0 1 rfl rfl _ (HF3.out _) rfl ?_) | fail)
  exact bodyPost_ret (results_af rfl _ _ w.heap.size (w.heap.size + 1) _ _ rfl rfl (HG3.out _ _) (setRow_self (HF3.out _) _) rfl rfl) rfl ⟨⟨by decide, rfl⟩, below_setRow (below_setRow HB2.out (Nat.le_refl _) _) (by omega) _⟩
def put3 (w : World) (f : Nat) (a b c : Value) : World := ((w.setCell ⟨f, 0, none⟩ a).setCell ⟨f, 1, none⟩ b).setCell ⟨f, 2, none⟩ c
theorem put3_other (w : World) (f : Nat) (a b c : Value) (k : Nat) (hk : k ≠ f) : (put3 w f a b c).heap[k]? = w.heap[k]? := by
  unfold put3
  rw [Below.heap_setCell _ _ _ _ hk, Below.heap_setCell _ _ _ _ hk, Below.heap_setCell _ _ _ _ hk]
theorem put3_at {w : World} {f : Nat} {x0 x1 x2 : Value} {t : TypeId} (h : w.heap[f]? = some (.cells #[x0, x1, x2] t (0, 0))) (a b c : Value) : (put3 w f a b c).heap[f]? = some (.cells #[a, b, c] t (0, 0)) := by
  have := set_block (set_block (set_block h 0 a) 1 b) 2 c
  simpa [put3] using this
theorem put3_below {B : Nat} {w w' : World} (h : Below B w w') {f : Nat} (hb : B ≤ f) (a b c : Value) : Below B w (put3 w' f a b c) :=
  ((h.setCell (p := ⟨f, 0, none⟩) hb _).setCell (p := ⟨f, 1, none⟩) hb _).setCell (p := ⟨f, 2, none⟩) hb _
theorem three_facts {w : World} {b : Nat} {x0 x1 x2 : Value} {t : TypeId} (h : w.heap[b]? = some (.cells #[x0, x1, x2] t (0, 0))) :
    (w.cell? ⟨b, 0, none⟩ = some x0 ∧ w.cell? ⟨b, 1, none⟩ = some x1 ∧ w.cell? ⟨b, 2, none⟩ = some x2) ∧ w.frozen? ⟨b, 0, none⟩ = false ∧ w.frozen? ⟨b, 1, none⟩ = false ∧ w.frozen? ⟨b, 2, none⟩ = false := by
  refine ⟨⟨?_, ?_, ?_⟩, ?_, ?_, ?_⟩ <;> simp [World.cell?, World.frozen?, h]
theorem drew_heapJ (w : World) : w.drew.heap = w.heap := rfl
set_option maxRecDepth 100000 in
set_option maxHeartbeats 8000000 in
theorem ra_parse_short (v : Value) (l : List Int) (n : Nat) (res : Rs) (w : World) (hle : l.length ≤ 1024) (hN : n ≤ 100000) (h : readP l n = some res) (hs : Sl w v l) :
    Calls Tryz.prog 10 #[v] w fun e w' => PsO w.heap.size res e w' ∧ Below w.heap.size w w' := by
  have hap := sl_lt hs
  obtain ⟨aa, cap, rfl⟩ : ∃ a cap, v = .slice a l.length cap := by
    obtain ⟨hy, hl, ⟨rfl, a, cap, hv⟩ | ⟨x, o, cap, hv, hcl, hcm, hr⟩⟩ := hs
    · exact ⟨a, cap, hv⟩
    · exact ⟨_, cap, hv⟩
  obtain ⟨W, hW⟩ : ∃ W, W = (w.alloc zrO).alloc zF := ⟨_, rfl⟩
  obtain ⟨V, hV⟩ : ∃ V, V = W.alloc (.cells #[.slice aa l.length cap, .int .i64 0, .int .i64 0, .int .i64 0, .int .i64 0] 81) := ⟨_, rfl⟩
  obtain ⟨rb, hrb⟩ : ∃ rb, w.heap.size + 2 = rb := ⟨_, rfl⟩
  have hWs : W.heap.size = rb := by rw [hW, ← hrb]; simp
  have hVs : V.heap.size = rb + 1 := by rw [hV, ← hWs]; simp
  have HB0 : Hid (Below w.heap.size w W) := Lib.hid (by rw [hW]; exact ((Below.refl _ _).alloc (Nat.le_refl _) _).alloc (by simp) _)
  have HBV : Hid (Below w.heap.size w V) := Lib.hid (by rw [hV]; exact HB0.out.alloc (by omega) _)
  have HG : Hid (V.heap[w.heap.size]? = some zrO) := Lib.hid (by rw [hV, hW]; exact alloc_keeps (alloc_keeps (heap_alloc_last w _) _) _)
  have HF : Hid (V.heap[w.heap.size + 1]? = some zF) := Lib.hid (by rw [hV]; exact alloc_keeps (by rw [hW]; have := heap_alloc_last (w.alloc zrO) zF; simpa using this) _)
  have HR : Hid (RaS l (.slice aa l.length cap) rb 0 0 0 V) := Lib.hid ⟨by rw [hV, ← hWs]; exact heap_alloc_last W _, hs.below HBV.out, hle, by omega, fun x o n' cap' e => by
    rcases hap with ⟨_, _, _, hl⟩ | hx
    · exact Or.inl hl
    · exact Or.inr (by have := hx x o n' cap' e; omega)⟩
  have HWE := Lib.hid hW
  have HVE := Lib.hid hV
  unfold readP at h
  obtain ⟨r1, hr1⟩ : ∃ r1, rd l n .expr (tok l 0) = some r1 := by
    cases h' : rd l n .expr (tok l 0) with
    | none => rw [h'] at h; cases h
    | some r => exact ⟨r, rfl⟩
  have HEX := Lib.hid ((ra_all l (.slice aa l.length cap) rb n hN).expr 0 r1 V hr1 HR.out (Nat.zero_le _))
  rw [hr1] at h
  have HH := Lib.hid h
  have hli : ¬ (1024 : Int) < l.length := by omega
  have HZ6 := Lib.hid z6_built
  have hVr : rb < V.heap.size := by omega
  have hwr : w.heap.size + 2 = rb := hrb
  have HWR := Lib.hid hwr
  clear hs hW hV h hr1 hap hwr
  unfold zrO zF at HWE
  go_enter Tryz.func10, Tryz.ntmps10
  go_upto_region 1 with fail
  rw [← HWE.out]
  clear hrb
  go_wp2_with fail
  rw [← HVE.out]
  refine HEX.out.mono ?_
  rintro x w4 ⟨⟨y, oa, na, rfl, hq⟩, hch⟩
  have hwr := HWR.out
  have HQ := Lib.hid hq
  have HC5 := Lib.hid (hch.alloc (.cells #[.string y.op, .int .i64 y.val, .string y.nm, .int .i64 y.pos, .int .i64 y.apos, .slice oa na na] 30) (by have := hch.1.size; omega))
  have H4S : Hid (V.heap.size ≤ w4.heap.size) := Lib.hid hch.1.size
  have HC4 := Lib.hid hch
  clear hq hch HEX
  cases r1 with
  | bad c q =>
    obtain rfl : Rs.bad c q = res := Option.some.inj HH.out
    obtain ⟨hc0, kk, hr4, hkl⟩ := HQ.out
    obtain ⟨c1, rfl⟩ : ∃ c1, c = c1 + 1 := ⟨c - 1, by omega⟩
    have HBL := Lib.hid (ra_blank (hr4.next ((Below.refl _ _).alloc (Nat.le_refl _) (.cells #[.string y.op, .int .i64 y.val, .string y.nm, .int .i64 y.pos, .int .i64 y.apos, .slice oa na na] 30))))
    clear hr4 HQ
    go_wp2_with fail
    refine HBL.out.mono ?_
    rintro x w6 ⟨rfl, hr6, hc6⟩
    have HR6 := Lib.hid hr6
    have HC6 := Lib.hid (HC5.out.trans hc6)
    have hcz : ((((c1 + 1 : Nat) : Int)) == 0) = false := by simp; omega
    clear hr6 hc6 HBL
    obtain ⟨d0, d1, d2, d3, d4⟩ := HR6.out.cells
    have hcn : ((((c1 + 1 : Nat) : Int)) != 0) = true := by simp; omega
    have hlg : lgR (c1 + 1) = 1 := if_neg (by omega)
    rw [hlg] at d4
    have HGX : Hid (w6.heap[w.heap.size]? = some zrO) := Lib.hid ((HC6.out.2 _ (by omega) (by omega)).trans HG.out)
    have HFX : Hid (w6.heap[w.heap.size + 1]? = some zF) := Lib.hid ((HC6.out.2 _ (by omega) (by omega)).trans HF.out)
    have HBX : Hid (Below w.heap.size w w6) := Lib.hid (HBV.out.trans (HC6.out.1.mono (by omega)))
    go_wp2_with fail
    have HSS : Hid (∀ X : World, X.heap[rb]? = w6.heap[rb]? → X.cell? ⟨rb, 2, none⟩ = some (.int .i64 ((c1 + 1 : Nat) : Int)) ∧ X.cell? ⟨rb, 3, none⟩ = some (.int .i64 (q : Nat)) ∧ X.cell? ⟨rb, 4, none⟩ = some (.int .i64 1)) := Lib.hid fun X hX => by
      rw [World.cell?_of_block (w := w6) (a := ⟨rb, 2, none⟩) hX, World.cell?_of_block (w := w6) (a := ⟨rb, 3, none⟩) hX, World.cell?_of_block (w := w6) (a := ⟨rb, 4, none⟩) hX]
      exact ⟨d2, d3, d4⟩
    have HS0 := Lib.hid (HSS.out w6 rfl)
    have HS1 := Lib.hid (HSS.out w6.drew (by rw [drew_heapJ]))
    have HS2 := Lib.hid (fun v0 v1 v2 v3 v4 v5 => HSS.out (putA w6 w.heap.size v0 v1 v2 v3 v4 v5).drew (by rw [drew_heapJ]; exact putA_other _ _ _ _ _ _ _ _ _ (by omega)))
    have HS3 := Lib.hid (fun v0 v1 v2 v3 v4 v5 u0 u1 u2 => HSS.out (put3 (putA w6 w.heap.size v0 v1 v2 v3 v4 v5) (w.heap.size + 1) u0 u1 u2).drew (by rw [drew_heapJ]; exact (put3_other _ _ _ _ _ _ (by omega)).trans (putA_other _ _ _ _ _ _ _ _ _ (by omega))))
    unfold putA at HS2
    unfold put3 putA at HS3
    obtain ⟨⟨z0, z1, z2, z3, z4, z5⟩, y0, y1, y2, y3, y4, y5⟩ := six_facts HGX.out
    obtain ⟨⟨u0, u1, u2⟩, w0, w1, w2⟩ := three_facts HFX.out
    have hne1 : w.heap.size + 1 ≠ w.heap.size := by omega
    clear d0 d1 d2 d3 d4
    go_region_held3 (fun X => X.cell? ⟨rb, 2, none⟩ = some (.int .i64 ((c1 + 1 : Nat) : Int)) ∧ X.cell? ⟨rb, 3, none⟩ = some (.int .i64 (q : Nat)) ∧ X.cell? ⟨rb, 4, none⟩ = some (.int .i64 1))
      (first | with_reducible exact HS0.out | with_reducible exact HS1.out | with_reducible exact HS2.out _ _ _ _ _ _ | with_reducible exact HS3.out _ _ _ _ _ _ _ _ _)
      (fail)
    obtain ⟨U, hU⟩ : ∃ U : World, U = (put3 (putA w6 w.heap.size (.string ⟨#[]⟩) (.int .i64 0) (.string ⟨#[]⟩) (.int .i64 0) (.int .i64 0) (.slice none 0 0)) (w.heap.size + 1) (.int .i64 ((c1 : Int) + 1)) (.int .i64 (q : Nat)) (.int .i64 1)).drew := ⟨_, rfl⟩
    have hU' := hU
    unfold put3 putA at hU'
    rw [← hU']
    have HUG : Hid (U.heap[w.heap.size]? = some (.cells zA 30 (0, 0))) := Lib.hid (by rw [hU, drew_heapJ]; exact (put3_other _ _ _ _ _ _ (by omega)).trans (putA_at HGX.out _ _ _ _ _ _))
    have HUF : Hid (U.heap[w.heap.size + 1]? = some (.cells #[.int .i64 ((c1 : Int) + 1), .int .i64 (q : Nat), .int .i64 1] 32 (0, 0))) := Lib.hid (by rw [hU, drew_heapJ]; exact put3_at ((putA_other _ _ _ _ _ _ _ _ _ (by omega)).trans HFX.out) _ _ _)
    have HUB : Hid (Below w.heap.size w U) := Lib.hid (by rw [hU]; exact (put3_below (putA_below HBX.out (Nat.le_refl _) _ _ _ _ _ _) (by omega) _ _ _).drew)
    clear hU hU' z0 z1 z2 z3 z4 z5 y0 y1 y2 y3 y4 y5 u0 u1 u2 w0 w1 w2 HS2 HS3
    go_wp2_with fail
    exact bodyPost_ret (results_af rfl _ _ w.heap.size (w.heap.size + 1) _ _ rfl rfl HUG.out HUF.out rfl rfl) rfl ⟨⟨by omega, rfl⟩, HUB.out⟩
  | ok t t1 =>
    obtain ⟨rfl, hi, kx, hr4, hkx, rfl⟩ := HQ.out
    have HI := Lib.hid hi
    have HBL := Lib.hid (ra_blank (hr4.next ((Below.refl _ _).alloc (Nat.le_refl _) (.cells #[.string y.op, .int .i64 y.val, .string y.nm, .int .i64 y.pos, .int .i64 y.apos, .slice oa na na] 30))))
    have hpk := skipN_le l kx hkx
    have HTS := Lib.hid (tok_skip l kx)
    have hk0 : (tok l kx).kind = 0 ↔ l.length ≤ skipN l kx := by
      constructor
      · intro e
        rcases tok_cases l kx with ⟨hd, _, _⟩ | ⟨_, _, e', _⟩ | ⟨_, _, e', _⟩ | ⟨_, _, _, e'⟩ | ⟨_, _, _, _, e'⟩
        · have := congrArg List.length hd
          rw [List.length_drop] at this
          simp at this
          omega
        · rw [e'] at e; exact absurd e (by show ¬ (3 : Int) = 0; decide)
        · rw [e'] at e; exact absurd e (by show ¬ (2 : Int) = 0; decide)
        · rw [e'] at e; exact absurd e (by show ¬ (4 : Int) = 0; decide)
        · rw [e'] at e; exact absurd e (by show ¬ (1 : Int) = 0; decide)
      · intro e
        have hd : l.drop (skipN l kx) = [] := List.drop_eq_nil_of_le e
        rcases tok_cases l kx with ⟨_, e', _⟩ | ⟨h1, _, _, _⟩ | ⟨_, h1, _, _⟩ | ⟨_, _, h1, _⟩ | ⟨_, _, _, h1, _⟩
        · rw [e']
        · rw [hd] at h1; exact absurd h1 (by decide)
        · rw [hd, cN_zero fun x m e => by cases e] at h1; exact absurd h1 (by decide)
        · unfold sgB at h1; rw [hd, opB_nil] at h1; exact absurd rfl h1
        · exact absurd hd h1
    have HK0 := Lib.hid hk0
    clear hr4 hi HQ hk0
    go_wp2_with fail
    refine HBL.out.mono ?_
    rintro x w6 ⟨rfl, hr6, hc6⟩
    have HR6 := Lib.hid hr6
    have HC6 := Lib.hid (HC5.out.trans hc6)
    have HC56 := Lib.hid hc6
    have HTX := HTS.out
    obtain ⟨p, hp⟩ : ∃ p, skipN l kx = p := ⟨_, rfl⟩
    rw [hp] at HR6 HK0 hpk HTX
    have HTP := Lib.hid HTX
    clear hr6 hc6 HBL HTS HTX hp
    obtain ⟨d0, d1, d2, d3, d4⟩ := HR6.out.cells
    have h4s := H4S.out
    by_cases hlt : p < l.length
    · have hlti : (p : Int) < l.length := by omega
      have hdec : decide ((p : Int) < l.length) = true := by simpa using hlti
      have hres : res = refuse (tok l kx) := by
        have hh := HH.out
        rw [if_neg (fun e => by have := HK0.out.1 e; omega)] at hh
        exact (Option.some.inj hh).symm
      have hcd : 0 < (tok l kx).code := by unfold Tk.code; split <;> omega
      have HUN := Lib.hid (ra_unx HR6.out hpk)
      rw [HTP.out] at HUN
      have hz0 : zT.v (.slice none 0 0) = .agg #[.string ⟨#[]⟩, .int .i64 0, .string ⟨#[]⟩, .int .i64 0, .int .i64 0, .slice none 0 0] := rfl
      rw [hz0] at HUN
      unfold refuse at hres
      generalize (tok l kx).code = c at *
      generalize (tok l kx).start = q at *
      subst hres
      obtain ⟨c1, rfl⟩ : ∃ c1, c = c1 + 1 := ⟨c - 1, by omega⟩
      go_wp2_with fail
      refine HUN.out.mono ?_
      rintro x w7 ⟨rfl, hr7, _, hc7⟩
      have HR7 := Lib.hid hr7
      have HC7 := Lib.hid (HC6.out.trans hc7)
      clear hr7 hc7 HUN d0 d1 d2 d3 d4
      obtain ⟨d0, d1, d2, d3, d4⟩ := HR7.out.cells
      have hcn : ((((c1 + 1 : Nat) : Int)) != 0) = true := by simp; omega
      have hlg : lgR (c1 + 1) = 1 := if_neg (by omega)
      rw [hlg] at d4
      have HGX : Hid (w7.heap[w.heap.size]? = some zrO) := Lib.hid ((HC7.out.2 _ (by omega) (by omega)).trans HG.out)
      have HFX : Hid (w7.heap[w.heap.size + 1]? = some zF) := Lib.hid ((HC7.out.2 _ (by omega) (by omega)).trans HF.out)
      have HBX : Hid (Below w.heap.size w w7) := Lib.hid (HBV.out.trans (HC7.out.1.mono (by omega)))
      go_wp2_with fail
      have HSS : Hid (∀ X : World, X.heap[rb]? = w7.heap[rb]? → X.cell? ⟨rb, 2, none⟩ = some (.int .i64 ((c1 + 1 : Nat) : Int)) ∧ X.cell? ⟨rb, 3, none⟩ = some (.int .i64 (q : Nat)) ∧ X.cell? ⟨rb, 4, none⟩ = some (.int .i64 1)) := Lib.hid fun X hX => by
        rw [World.cell?_of_block (w := w7) (a := ⟨rb, 2, none⟩) hX, World.cell?_of_block (w := w7) (a := ⟨rb, 3, none⟩) hX, World.cell?_of_block (w := w7) (a := ⟨rb, 4, none⟩) hX]
        exact ⟨d2, d3, d4⟩
      have HS0 := Lib.hid (HSS.out w7 rfl)
      have HS1 := Lib.hid (HSS.out w7.drew (by rw [drew_heapJ]))
      have HS2 := Lib.hid (fun v0 v1 v2 v3 v4 v5 => HSS.out (putA w7 w.heap.size v0 v1 v2 v3 v4 v5).drew (by rw [drew_heapJ]; exact putA_other _ _ _ _ _ _ _ _ _ (by omega)))
      have HS3 := Lib.hid (fun v0 v1 v2 v3 v4 v5 u0 u1 u2 => HSS.out (put3 (putA w7 w.heap.size v0 v1 v2 v3 v4 v5) (w.heap.size + 1) u0 u1 u2).drew (by rw [drew_heapJ]; exact (put3_other _ _ _ _ _ _ (by omega)).trans (putA_other _ _ _ _ _ _ _ _ _ (by omega))))
      unfold putA at HS2
      unfold put3 putA at HS3
      obtain ⟨⟨z0, z1, z2, z3, z4, z5⟩, y0, y1, y2, y3, y4, y5⟩ := six_facts HGX.out
      obtain ⟨⟨u0, u1, u2⟩, w0, w1, w2⟩ := three_facts HFX.out
      have hne1 : w.heap.size + 1 ≠ w.heap.size := by omega
      clear d0 d1 d2 d3 d4
      go_region_held3 (fun X => X.cell? ⟨rb, 2, none⟩ = some (.int .i64 ((c1 + 1 : Nat) : Int)) ∧ X.cell? ⟨rb, 3, none⟩ = some (.int .i64 (q : Nat)) ∧ X.cell? ⟨rb, 4, none⟩ = some (.int .i64 1))
        (first | with_reducible exact HS0.out | with_reducible exact HS1.out | with_reducible exact HS2.out _ _ _ _ _ _ | with_reducible exact HS3.out _ _ _ _ _ _ _ _ _)
        (fail)
      obtain ⟨U, hU⟩ : ∃ U : World, U = (put3 (putA w7 w.heap.size (.string ⟨#[]⟩) (.int .i64 0) (.string ⟨#[]⟩) (.int .i64 0) (.int .i64 0) (.slice none 0 0)) (w.heap.size + 1) (.int .i64 ((c1 : Int) + 1)) (.int .i64 (q : Nat)) (.int .i64 1)).drew := ⟨_, rfl⟩
      have hU' := hU
      unfold put3 putA at hU'
      rw [← hU']
      have HUG : Hid (U.heap[w.heap.size]? = some (.cells zA 30 (0, 0))) := Lib.hid (by rw [hU, drew_heapJ]; exact (put3_other _ _ _ _ _ _ (by omega)).trans (putA_at HGX.out _ _ _ _ _ _))
      have HUF : Hid (U.heap[w.heap.size + 1]? = some (.cells #[.int .i64 ((c1 : Int) + 1), .int .i64 (q : Nat), .int .i64 1] 32 (0, 0))) := Lib.hid (by rw [hU, drew_heapJ]; exact put3_at ((putA_other _ _ _ _ _ _ _ _ _ (by omega)).trans HFX.out) _ _ _)
      have HUB : Hid (Below w.heap.size w U) := Lib.hid (by rw [hU]; exact (put3_below (putA_below HBX.out (Nat.le_refl _) _ _ _ _ _ _) (by omega) _ _ _).drew)
      clear hU hU' z0 z1 z2 z3 z4 z5 y0 y1 y2 y3 y4 y5 u0 u1 u2 w0 w1 w2 HS2 HS3
      go_wp2_with fail
      exact bodyPost_ret (results_af rfl _ _ w.heap.size (w.heap.size + 1) _ _ rfl rfl HUG.out HUF.out rfl rfl) rfl ⟨⟨by omega, rfl⟩, HUB.out⟩
    · have hlti : ¬ (p : Int) < l.length := by omega
      have hdec : decide ((p : Int) < l.length) = false := by simpa using hlti
      have hres : res = .ok y (tok l kx) := by
        have hh := HH.out
        rw [if_pos (HK0.out.2 (by omega))] at hh
        exact (Option.some.inj hh).symm
      subst hres
      have h6Y : w6.heap[w4.heap.size]? = some (.cells #[.string y.op, .int .i64 y.val, .string y.nm, .int .i64 y.pos, .int .i64 y.apos, .slice oa na na] 30) := (HC56.out.2 _ (by simp) (by omega)).trans (heap_alloc_last w4 _)
      obtain ⟨⟨k0, k1, k2, k3, k4, k5⟩, _⟩ := six_facts h6Y
      have HG6 := Lib.hid ((HC6.out.2 _ (by omega) (by omega)).trans HG.out)
      have HF6 := Lib.hid ((HC6.out.2 _ (by omega) (by omega)).trans HF.out)
      have HF7 : Hid (∀ c, (w6.setRow w.heap.size c).heap[w.heap.size + 1]? = some zF) := Lib.hid fun c => by
        show (w6.heap.modify w.heap.size _)[w.heap.size + 1]? = _
        rw [Array.getElem?_modify, if_neg (by omega)]
        exact HF6.out
      have HG8 : Hid (∀ c d, ((w6.setRow w.heap.size c).setRow (w.heap.size + 1) d).heap[w.heap.size]? = some (.cells c 30 (0, 0))) := Lib.hid fun c d => by
        show ((w6.setRow w.heap.size c).heap.modify (w.heap.size + 1) _)[w.heap.size]? = _
        rw [Array.getElem?_modify, if_neg (by omega)]
        exact setRow_self HG6.out c
      have HFB := Lib.hid ft_built
      have HB6 := Lib.hid (HBV.out.trans (HC6.out.1.mono (by omega)))
      have HI6 : Hid (∀ c d, y.In ((w6.setRow w.heap.size c).setRow (w.heap.size + 1) d) w.heap.size (.slice oa na na)) := Lib.hid fun c d => (((HI.out.kept (fun k' _ hs => alloc_at_old _ (.cells #[.string y.op, .int .i64 y.val, .string y.nm, .int .i64 y.pos, .int .i64 y.apos, .slice oa na na] 30) k' hs) _ _).ch (by omega) HC56.out |>.setRow (g := w.heap.size) (by omega) c).setRow (g := w.heap.size + 1) (by omega) d).mono (by omega) _ _
      unfold zrO at HG6
      unfold zF at HF7
      clear h6Y
      go_wp2_with (first | (refine wpList_buildTo rfl 32 _ rfl _ rfl _ HFB.out ?_) | (refine wpList_store_ar rfl _ _ rfl rfl w.heap.size y.op y.val y.nm y.pos y.apos (.slice oa na na) rfl rfl rfl _ HG6.out rfl ?_) | (refine wpList_store_ft rfl _ _ rfl rfl (w.heap.size + 1) 0 0 0 rfl rfl _ (HF7.out _) rfl ?_) | fail)
      exact bodyPost_ret (results_af rfl _ _ w.heap.size (w.heap.size + 1) _ _ rfl rfl (HG8.out _ _) (setRow_self (HF7.out _) _) rfl rfl) rfl ⟨⟨oa, na, rfl, HI6.out _ _⟩, below_setRow (below_setRow HB6.out (Nat.le_refl _) _) (by omega) _⟩
theorem ra_parse (v : Value) (l : List Int) (n : Nat) (res : Rs) (w : World) (hN : n ≤ 100000) (h : parseP l n = some res) (hs : Sl w v l) :
    Calls Tryz.prog 10 #[v] w fun e w' => PsO w.heap.size res e w' ∧ Below w.heap.size w w' := by
  unfold parseP at h
  by_cases hb : 1024 < l.length
  · rw [if_pos hb] at h
    obtain rfl := Option.some.inj h
    exact ra_parse_long v l w hb hs
  · rw [if_neg hb] at h
    exact ra_parse_short v l n res w (by omega) hN h hs
end Go.Proofs.YtacfglopionkfaaGreatDoor
