import Derived.Test.YtnpkcllbpnmabaaGreatDoorKSc
import Derived.Deep.LoopGhost
namespace Go.Proofs.YtnpkcllbpnmabaaGreatDoor
set_option maxHeartbeats 8000000
set_option maxRecDepth 100000
open Go.RowKit
theorem ask_found {l : List Int} {G : List St × Nat} (hc : ClG G.1) (hz : ∀ x, G.1[x]? = some .acc ↔ x = 0) (hst : G.2 < G.1.length) (a wm : Nat) : FoundT l G a wm (askF G l (a : Int) wm).1 := by
 have e : askF G l (a : Int) wm = passF G l a wm := by unfold askF; rw [if_neg (by omega)]; rfl
 rw [e]
 exact passF_found hc hz hst a wm
theorem found_le {l : List Int} {G : List St × Nat} {a w : Nat} {q : Nat × Nat} (f : FoundT l G a w (some q)) : a ≤ q.1 ∧ q.1 ≤ q.2 ∧ q.2 ≤ l.length := ⟨f.1.1, f.2.1, f.2.2.1⟩
theorem hitV_some (s e v : Nat) : hitV (some (s, e), v) = .agg #[.bool true, .int .i64 (s : Nat), .int .i64 (e : Nat), .int .i64 (v : Nat)] := rfl
def allQ (P : Nat → Option (Nat × Nat)) : Nat → Nat → Option Nat → Option (List (Nat × Nat))
 | 0, _, _ => none
 | k + 1, a, q =>
  match P a with
  | none => some []
  | some p => if q = some p.1 ∧ q = some p.2 then allQ P k (p.2 + 1) q else (allQ P k p.2 (some p.2)).map (p :: ·)
def PassOk (P : Nat → Option (Nat × Nat)) (N : Nat) : Prop := ∀ a q, P a = some q → a ≤ q.1 ∧ q.1 ≤ q.2 ∧ q.2 ≤ N
theorem allQ_some {P : Nat → Option (Nat × Nat)} {N : Nat} (hP : PassOk P N) : ∀ (k a : Nat) (q : Option Nat), (∀ x, q = some x → x ≤ a ∧ a ≤ x + 1) → a ≤ N + 1 → 2 * (N + 1 - a) + (if q = some a then 0 else 1) < k → ∃ L, allQ P k a q = some L
 | 0, _, _, _, _, h => by omega
 | k + 1, a, q, hq, ha, h => by
  unfold allQ
  cases hp : P a with
  | none => exact ⟨[], rfl⟩
  | some p =>
   obtain ⟨h1, h2, h3⟩ := hP a p hp
   dsimp only
   split
   ·rename_i he
    have hx := hq p.1 he.1
    have e1 : p.1 = p.2 := Option.some.inj (he.1.symm.trans he.2)
    have e2 : q = some a := by rw [he.1]; congr 1; omega
    rw [if_pos e2] at h
    refine allQ_some hP k (p.2 + 1) q (fun x hx => ?_) (by omega) ?_
    ·rw [he.1] at hx
     have := Option.some.inj hx
     omega
    ·rw [if_neg (by rw [he.1]; intro e; have := Option.some.inj e; omega)]
     omega
   ·rename_i he
    have hlt : 2 * (N + 1 - p.2) + (if some p.2 = some p.2 then 0 else 1) < k := by
     rw [if_pos rfl]
     by_cases hpa : p.2 = a
     ·have h4 : ¬ q = some a := fun e => he ⟨by rw [e]; congr 1; omega, by rw [e]; congr 1; omega⟩
      rw [if_neg h4] at h
      omega
     ·split at h <;> omega
    obtain ⟨L, hL⟩ := allQ_some hP k p.2 (some p.2) (fun x hx => by have := Option.some.inj hx; omega) (by omega) hlt
    exact ⟨p :: L, by rw [hL]; rfl⟩
theorem allQ_len {P : Nat → Option (Nat × Nat)} : ∀ (k a : Nat) (q : Option Nat) (L : List (Nat × Nat)), allQ P k a q = some L → L.length ≤ k
 | 0, _, _, _, h => by cases h
 | k + 1, a, q, L, h => by
  unfold allQ at h
  cases hp : P a with
  | none => rw [hp] at h; cases h; exact Nat.zero_le _
  | some p =>
   rw [hp] at h
   dsimp only at h
   split at h
   ·exact Nat.le_succ_of_le (allQ_len k _ _ L h)
   ·obtain ⟨L', hL', e⟩ := Option.map_eq_some_iff.1 h
    subst e
    exact Nat.succ_le_succ (allQ_len k _ _ L' hL')
theorem allQ_go {P : Nat → Option (Nat × Nat)} {k a : Nat} {q : Option Nat} {L : List (Nat × Nat)} (h : allQ P (k + 1) a q = some L) : (P a = none ∧ L = []) ∨ ∃ p, P a = some p ∧ ((q = some p.1 ∧ q = some p.2 ∧ allQ P k (p.2 + 1) q = some L) ∨ (¬ (q = some p.1 ∧ q = some p.2) ∧ ∃ L', L = p :: L' ∧ allQ P k p.2 (some p.2) = some L')) := by
 unfold allQ at h
 cases hp : P a with
 | none => rw [hp] at h; exact Or.inl ⟨rfl, (Option.some.inj h).symm⟩
 | some p =>
  rw [hp] at h
  dsimp only at h
  refine Or.inr ⟨p, rfl, ?_⟩
  split at h
  ·rename_i he
   exact Or.inl ⟨he.1, he.2, h⟩
  ·rename_i he
   obtain ⟨L', hL', e⟩ := Option.map_eq_some_iff.1 h
   exact Or.inr ⟨he, L', e.symm, hL'⟩
theorem spass_bigR {cur : Array Value} (rb B' gb st n N sc : Nat) (g : List St) (sa : Option Addr) (a wm : Int) (w : World) (hn : n = g.length) (hn0 : 0 < n) (hg : GrAt B' gb g st w) (h : w.heap[rb]? = some (.cells cur 78 (0, 0))) (hc0 : cur[0]? = some (.pointer (some ⟨gb, 0, none⟩))) (hc1 : cur[1]? = some (.slice sa N sc)) (ha : (N : Int) < a) (hN : N ≤ 1099511627776) :
  Calls Tryz.prog 13 #[.pointer (some ⟨rb, 0, none⟩), .int .i64 a, .int .i64 wm] w (NoPass w) := by
 have c0 : w.cell? ⟨rb, 0, none⟩ = some (.pointer (some ⟨gb, 0, none⟩)) := (Lib.cell_of_heap h 0).trans hc0
 have c1 : w.cell? ⟨rb, 1, none⟩ = some (.slice sa N sc) := (Lib.cell_of_heap h 1).trans hc1
 have cz := lt_blkB h
 obtain ⟨W, hW⟩ : ∃ W, W = (w.alloc (.cells #[.bool false, .int .i64 0, .int .i64 0, .int .i64 0] 31)).alloc (.cells #[.bool false, .int .i64 0, .int .i64 0, .int .i64 0] 31) := ⟨_, rfl⟩
 have hb : Below w.heap.size w W := by rw [hW]; exact ((Below.refl _ _).alloc (Nat.le_refl _) _).alloc (by simp) _
 have HB := Lib.hid hb
 have HLEN := Lib.hid (glen_any B' gb st g W (hg.below hb))
 rw [← hn] at HLEN
 have g1 : ((n : Int) == 0) = false := by simp; omega
 have g0 : ¬ (n : Int) = 0 := by omega
 have g2 : ¬ a < 0 := by omega
 have g2' : decide (a < 0) = false := by simp; omega
 have g3 : decide ((N : Int) < a) = true := decide_eq_true ha
 rw [hW] at HLEN HB
 unfold NoPass
 clear h hg hn hb hW hc0 hc1
 go_enter Tryz.func13, Tryz.ntmps13
 go_wp2
 go_step3
 go_wp2_with (first | (go_at_call 26; refine HLEN.out.mono ?_; rintro r wq ⟨rfl, rfl⟩) | fail)
 rw [Exit.noGoto_ret]
 refine bodyPost_ret (v := .agg #[.bool false, .int .i64 0, .int .i64 0, .int .i64 0]) (by simp [results, Tryz.results13, go_sem]) rfl ?_
 exact ⟨rfl, HB.out⟩
theorem AutA.chSm {B gb st : Nat} {g : List St} {w w' : World} (h : AutA gb st g w) (hc : ChSm B w w') : AutA gb st g w' := by
 obtain ⟨B', hg⟩ := h.gr
 exact ⟨⟨B', hg.chSm hc⟩, h.cl, h.ze, h.lt, h.n4⟩
theorem own_chSm {B B' s n : Nat} {T : TypeId} {v : Value} {xs : List Value} {w w' : World} (h : w.ownsRow B T s v n xs) (hc : ChSm B' w w') (h1 : T ≠ 78) (h2 : T ≠ 83) : w'.ownsRow B T s v n xs := by
 obtain ⟨h0, h3 | ⟨g, cap, cur, e, h3, hg, h4⟩⟩ := h
 ·exact ⟨h0, Or.inl h3⟩
 ·exact ⟨h0, Or.inr ⟨g, cap, cur, e, h3, hc.blk hg h1 h2, h4⟩⟩
theorem own_apart {w : World} {B B' s s' n n' : Nat} {T T' : TypeId} {v v' : Value} {xs xs' : List Value} (h : w.ownsRow B T s v n xs) (h' : w.ownsRow B' T' s' v' n' xs') (hT : T ≠ T') : v.ownBlock = none ∨ v.ownBlock ≠ v'.ownBlock := by
 rcases h.2 with ⟨rfl, _⟩ | ⟨g, cap, cur, rfl, _, hg, _⟩
 ·exact Or.inl rfl
 ·exact Or.inr fun e => own_neK h' hg hT e.symm
theorem RunB.grown {on : Bool} {B B' rb gb n gen vis s m : Nat} {S vA vC v : Value} {A C : Th} {xs : List Value} {w w' : World} (h : RunB on B rb gb n S gen vis A C vA vC w) (hr : w.ownsRow B' 29 s v m xs) (hg : w.grownBy w' v.ownBlock) : RunB on B rb gb n S gen vis A C vA vC w' := by
 obtain ⟨cur, h1, h2⟩ := h.blk
 exact ⟨⟨cur, blk_grown h1 hg (own_neK hr h1 (by decide)), h2⟩, h.ra.kept hg (own_apart h.ra hr (by decide)), h.rc.kept hg (own_apart h.rc hr (by decide)), h.ap, h.lo, h.un, h.cn, h.n4⟩
theorem AutA.grown {B' gb st s m : Nat} {g : List St} {v : Value} {xs : List Value} {w w' : World} (h : AutA gb st g w) (hr : w.ownsRow B' 29 s v m xs) (hg : w.grownBy w' v.ownBlock) : AutA gb st g w' := by
 obtain ⟨B0, h0, u, h1, h2⟩ := h.gr
 exact ⟨⟨B0, h0, u, blk_grown h1 hg (own_neK hr h1 (by decide)), own_same h2 fun b _ cs hc => hg.block b (lt_blkB hc) (fun e => own_neK hr hc (by decide) e.symm)⟩, h.cl, h.ze, h.lt, h.n4⟩
theorem below_grown {B B' s m : Nat} {T : TypeId} {v : Value} {xs : List Value} {w w' : World} (hr : w.ownsRow B' T s v m xs) (hg : w.grownBy w' v.ownBlock) (hB : B ≤ B') (hz : B ≤ w.heap.size) : Below B w w' :=
 ⟨hg.os, hg.tape, hg.output, hg.size, fun k hk => hg.block k (Nat.lt_of_lt_of_le hk hz) (fun e => by have := (hr.lt k e.symm).1; omega)⟩
theorem runpass_any (on : Bool) (B rb gb st gen vis wm sc k : Nat) (g : List St) (l : List Int) (sa : Option Addr) (A C : Th) (vA vC : Value) (w : World) (hA : AutA gb st g w) (h : RunB on B rb gb g.length (.slice sa l.length sc) gen vis A C vA vC w) (hB : B ≤ w.heap.size) (hby : Byt l) (hl : l.length ≤ 1099511627000)
  (hcell : ∀ i, i < l.length → ∃ lb lo, sa = some ⟨lb, lo, none⟩ ∧ lb < B ∧ w.cell? ⟨lb, lo + i, none⟩ = some (.int .u8 (l.getD i 0))) (hgen : gen ≤ 1099511627000000) (hwm : wm ≤ 2) :
  Calls Tryz.prog 13 #[.pointer (some ⟨rb, 0, none⟩), .int .i64 (k : Nat), .int .i64 (wm : Nat)] w fun r w' => r = .returned (hitV (askF (g, st) l (k : Nat) wm)) ∧ ∃ on' gen' vis' A' C' vA' vC', gen' ≤ gen + l.length + 3 ∧ RunB on' B rb gb g.length (.slice sa l.length sc) gen' vis' A' C' vA' vC' w' ∧ ChSm B w w' := by
 obtain ⟨B', hg⟩ := hA.gr
 have hn0 : 0 < g.length := by have := hA.lt; omega
 by_cases h2 : l.length < k
 ·rw [askF_out (Or.inr (by omega))]
  obtain ⟨cur, hb, hC⟩ := h.blk
  exact (spass_bigR rb B' gb st g.length l.length sc g sa k wm w rfl hn0 hg hb hC.g hC.s (by omega) (by omega)).mono fun r w' hq => ⟨hq.1, on, gen, vis, A, C, vA, vC, by omega, h.below hq.2, ChSm.below hq.2 hB⟩
 ·have e : askF (g, st) l (k : Int) wm = passF (g, st) l k wm := by unfold askF; rw [if_neg (by omega)]; rfl
  rw [e]
  refine (spass_any on B B' gb st rb g.length gen vis k wm l.length sa sc g l A C vA vC w rfl hA.cl hA.ze hA.lt hg h hB rfl hl hgen hby hcell (by omega) hwm).mono ?_
  rintro r w' ⟨h3, gen', vis', A', C', vA', vC', h4, h5, h6⟩
  exact ⟨h3, true, gen', vis', A', C', vA', vC', h4, h5, h6⟩
def lastZ : Option Nat → Int
 | none => -1
 | some x => (x : Nat)
theorem gen_step {K k N gen gen1 : Nat} (h1 : gen ≤ (K - (k + 1)) * (N + 3)) (h2 : gen1 ≤ gen + N + 3) (hk : k + 1 ≤ K) : gen1 ≤ (K - k) * (N + 3) := by
 have e : K - k = (K - (k + 1)) + 1 := by omega
 rw [e, Nat.add_mul]
 omega
structure AllI (B rb gb st genM : Nat) (g : List St) (S : Value) (done : Th) (v : Value) (w X : World) : Prop where
 run : ∃ on gen vis A C vA vC, gen ≤ genM ∧ RunB on B rb gb g.length S gen vis A C vA vC X
 row : X.ownsRow B 29 2 v done.length (rowT done)
 bel : Below B w X
 aut : AutA gb st g X
theorem sp_parts : ∃ i z, Tryz.prog.info? 29 = some i ∧ i.zero = some z ∧ i.size = 2 ∧ i.bytes = 16 ∧ z.cells.size = 2 := by
 have h : (Tryz.prog.info? 29).map (fun i => (i.zero.map (·.cells.size), i.size, i.bytes)) = some (some 2, 2, 16) := by kernel_rfl
 obtain ⟨i, hi, hzz⟩ := Option.map_eq_some_iff.1 h
 simp only [Prod.mk.injEq] at hzz
 obtain ⟨z, hz, hs⟩ := Option.map_eq_some_iff.1 hzz.1
 exact ⟨i, z, hi, hz, hzz.2.1, hzz.2.2, hs⟩
theorem srall_any (B rb gb st sc K : Nat) (g : List St) (l : List Int) (sa : Option Addr) (L : List (Nat × Nat)) (w : World) (hA : AutA gb st g w) (h : RunB false B rb gb g.length (.slice sa l.length sc) 0 0 [] [] (.slice none 0 0) (.slice none 0 0) w) (hB : B ≤ w.heap.size) (hby : Byt l) (hl : l.length ≤ 1000000)
  (hcell : ∀ i, i < l.length → ∃ lb lo, sa = some ⟨lb, lo, none⟩ ∧ lb < B ∧ w.cell? ⟨lb, lo + i, none⟩ = some (.int .u8 (l.getD i 0))) (hP : PassOk (fun a => (askF (g, st) l (a : Nat) 1).1) l.length) (hL : allQ (fun a => (askF (g, st) l (a : Nat) 1).1) K 0 none = some L) (hK : K * (l.length + 3) ≤ 1000000000000) :
  Calls Tryz.prog 14 #[.pointer (some ⟨rb, 0, none⟩)] w fun r w' => ∃ v, r = .returned v ∧ w'.ownsRow B 29 2 v L.length (rowT L) ∧ Below B w w' := by
 obtain ⟨i0, z0, hi0, hz0, hz1, hz2, hz3⟩ := sp_parts
 have HP := Lib.hid hP
 have HK := Lib.hid hK
 have HLL := Lib.hid hl
 have HPA : Hid (∀ (on : Bool) (gen vis k : Nat) (A C : Th) (vA vC : Value) (X : World), AutA gb st g X → RunB on B rb gb g.length (.slice sa l.length sc) gen vis A C vA vC X → Below B w X → gen ≤ 1099511627000000 → Calls Tryz.prog 13 #[.pointer (some ⟨rb, 0, none⟩), .int .i64 (k : Nat), .int .i64 (1 : Nat)] X fun r w' => r = .returned (hitV (askF (g, st) l (k : Nat) 1)) ∧ ∃ on' gen' vis' A' C' vA' vC', gen' ≤ gen + l.length + 3 ∧ RunB on' B rb gb g.length (.slice sa l.length sc) gen' vis' A' C' vA' vC' w' ∧ ChSm B X w') :=
  Lib.hid (fun on gen vis k A C vA vC X h1 h2 h3 h4 => runpass_any on B rb gb st gen vis 1 sc k g l sa A C vA vC X h1 h2 (Nat.le_trans hB h3.size) hby (by omega) (fun i hi => by
   obtain ⟨lb, lo, e1, e2, e3⟩ := hcell i hi
   exact ⟨lb, lo, e1, e2, (h3.cell (show (⟨lb, lo + i, none⟩ : Addr).block < B from e2)).trans e3⟩) h4 (by omega))
 have HI0 : Hid (AllI B rb gb st 0 g (.slice sa l.length sc) [] (.slice none 0 0) w w) := Lib.hid ⟨⟨_, _, _, _, _, _, _, Nat.le_refl _, h⟩, World.ownsRow_nil _ _ _ _, Below.refl _ _, hA⟩
 have HB := Lib.hid hB
 obtain ⟨P, hPe⟩ : ∃ P : Nat → Option (Nat × Nat), P = fun a => (askF (g, st) l (a : Nat) 1).1 := ⟨_, rfl⟩
 rw [← hPe] at HP hL
 have HPE := Lib.hid hPe
 have HL0 := Lib.hid hL
 clear hA h hB hby hl hcell hP hL hK hPe
 go_enter Tryz.func14, Tryz.ntmps14
 go_wp2_with fail
 go_loopg [3, 4, 5] K (fun gh s3 s4 s5 X => ∃ (k a : Nat) (q : Option Nat) (done rest : Th) (va : Option Addr) (vc : Nat), gh = k ∧ s3 = .slice va done.length vc ∧ s4 = .int .i64 (a : Nat) ∧ s5 = .int .i64 (lastZ q) ∧ k ≤ K ∧ (∀ x, q = some x → x ≤ l.length) ∧ allQ P k a q = some rest ∧ L = done ++ rest ∧ done.length + k ≤ K ∧ Aside (AllI B rb gb st ((K - k) * (l.length + 3)) g (.slice sa l.length sc) done (.slice va done.length vc) w X))
 case atStart => exact ⟨K, 0, none, [], L, none, 0, rfl, rfl, rfl, rfl, Nat.le_refl _, fun x hx => (by cases hx), HL0.out, rfl, by simp, by rw [Nat.sub_self, Nat.zero_mul]; exact HI0.out⟩
 case round =>
  obtain ⟨k, a, q, done, rest, va, vc, hgh, rfl, rfl, rfl, hkK, hql, hq, hLd, hdk, hal⟩ := hrel
  obtain ⟨on, gen, vis, A, C, vA, vC, hg1, hrun⟩ := hal.out.run
  have hgen : gen ≤ 1099511627000000 := by
   have h1 : (K - k) * (l.length + 3) ≤ K * (l.length + 3) := Nat.mul_le_mul_right _ (Nat.sub_le _ _)
   have := HK.out
   omega
  have HPX := Lib.hid (HPA.out on gen vis a A C vA vC wr hal.out.aut hrun hal.out.bel hgen)
  have HROW := Lib.hid hal.out.row
  have HBEL := Lib.hid hal.out.bel
  have HAUT := Lib.hid hal.out.aut
  cases k with
  | zero => unfold allQ at hq; cases hq
  | succ k =>
   have HGH := Lib.hid hgh
   have HLD := Lib.hid hLd
   have HDK := Lib.hid hdk
   have HG1 := Lib.hid hg1
   have hpa : P a = (askF (g, st) l (a : Nat) 1).1 := by rw [HPE.out]
   unfold allQ at hq
   obtain ⟨R, hR⟩ : ∃ R, R = askF (g, st) l (a : Nat) 1 := ⟨_, rfl⟩
   rw [← hR] at HPX hpa
   obtain ⟨hh, vi⟩ := R
   dsimp only at hpa
   have HPO := Lib.hid (HP.out a)
   rw [hpa] at hq HPO
   clear hgh hLd hdk hg1 hal hrun hgen hR hpa HL0 HI0 HPE
   go_wp2_with fail
   refine HPX.out.mono ?_
   rintro r X1 ⟨rfl, on1, gen1, vis1, A1, C1, vA1, vC1, hg2, hr2, hch⟩
   have HR2 := Lib.hid hr2
   have HCH := Lib.hid hch
   have HG2 := Lib.hid hg2
   clear hg2 hr2 hch
   cases hh with
   | none =>
    rw [show hitV (none, vi) = .agg #[.bool false, .int .i64 0, .int .i64 0, .int .i64 (vi : Nat)] from rfl]
    have hrest : rest = [] := by simpa using hq.symm
    go_wp2_with fail
    go_ret
    refine ⟨_, rfl, ?_, ?_⟩
    ·rw [HLD.out, hrest, List.append_nil]
     exact own_drop (own_chSm HROW.out HCH.out (by decide) (by decide)) ((Below.refl _ _).alloc (Nat.le_refl _) _)
    ·exact HBEL.out.trans (HCH.out.bel.trans ((Below.refl _ _).alloc (Nat.le_trans HB.out (Nat.le_trans HBEL.out.size HCH.out.bel.size)) _))
   | some p =>
    obtain ⟨p1, p2⟩ := p
    rw [show hitV (some (p1, p2), vi) = .agg #[.bool true, .int .i64 (p1 : Nat), .int .i64 (p2 : Nat), .int .i64 (vi : Nat)] from rfl]
    go_upto_region 7 with fail
    obtain ⟨W3, hW3⟩ : ∃ W3, W3 = X1.alloc (.cells #[.bool true, .int .i64 (p1 : Nat), .int .i64 (p2 : Nat), .int .i64 (vi : Nat)] 31) := ⟨_, rfl⟩
    have hh6 : W3.heap[X1.heap.size]? = some (.cells #[.bool true, .int .i64 (p1 : Nat), .int .i64 (p2 : Nat), .int .i64 (vi : Nat)] 31 (0, 0)) := by rw [hW3]; exact alloc_last X1 _
    have hb3 : Below X1.heap.size X1 W3 := by rw [hW3]; exact (Below.refl _ _).alloc (Nat.le_refl _) _
    rw [← hW3]
    have HR3 := Lib.hid (HR2.out.below hb3)
    have HROW3 := Lib.hid (own_drop (own_chSm HROW.out HCH.out (by decide) (by decide)) hb3)
    have HB3 := Lib.hid (HBEL.out.trans (HCH.out.bel.trans (hb3.mono (Nat.le_trans HB.out (Nat.le_trans HBEL.out.size HCH.out.bel.size)))))
    have HA3 := Lib.hid ((HAUT.out.chSm HCH.out).below hb3)
    have q0 : W3.cell? ⟨X1.heap.size, 0, none⟩ = some (.bool true) := (Lib.cell_of_heap hh6 0).trans rfl
    have q1 : W3.cell? ⟨X1.heap.size, 1, none⟩ = some (.int .i64 (p1 : Nat)) := (Lib.cell_of_heap hh6 1).trans rfl
    have q2 : W3.cell? ⟨X1.heap.size, 2, none⟩ = some (.int .i64 (p2 : Nat)) := (Lib.cell_of_heap hh6 2).trans rfl
    have qz := lt_blkB hh6
    have HH6 := Lib.hid hh6
    generalize X1.heap.size = h6 at *
    clear hb3 hh6 hW3 HR2 HCH HPX HROW HBEL HAUT
    by_cases he : q = some p1 ∧ q = some p2
    ·rw [if_pos he] at hq
     have hz : lastZ q = (p2 : Nat) := by rw [he.2]; rfl
     have hp12 : p1 = p2 := Option.some.inj (he.1.symm.trans he.2)
     subst hp12
     have h2 := (HPO.out _ rfl).2.2
     have hx1 : (p1 : Int) + 1 ≤ 9223372036854775807 := by have := HLL.out; omega
     have hx0 : -9223372036854775808 ≤ (p1 : Int) + 1 := by omega
     have HZ : Hid (lastZ q = (p1 : Nat)) := Lib.hid hz
     have HI := Lib.hid (AllI.mk (genM := (K - k) * (l.length + 3)) ⟨on1, gen1, vis1, A1, C1, vA1, vC1, gen_step HG1.out HG2.out hkK, HR3.out⟩ HROW3.out HB3.out HA3.out)
     rw [hz]
     clear hz he
     go_wp2_with fail
     go_roundg k
     case measure => have := HGH.out; omega
     case rel => exact ⟨k, p1 + 1, q, done, rest, va, vc, rfl, rfl, by simp, by rw [HZ.out], by omega, hql, hq, HLD.out, by have := HDK.out; omega, HI.out⟩
    ·rw [if_neg he] at hq
     obtain ⟨rest', hq', hre⟩ := Option.map_eq_some_iff.1 hq
     have HLD' : Hid (L = (done ++ [(p1, p2)]) ++ rest') := Lib.hid (by rw [HLD.out, ← hre]; simp)
     have HP2 := Lib.hid (HPO.out _ rfl).2.2
     have HQ' := Lib.hid hq'
     have hdl : done.length ≤ 1000000000000 := by
      have h1 := HDK.out
      have h2 := HK.out
      have h3 : K * 1 ≤ K * (l.length + 3) := Nat.mul_le_mul_left _ (by omega)
      omega
     have HDL := Lib.hid hdl
     clear hq hq' hre HLD hdl HPO
     by_cases hc1 : q = some p1
     ·have hc2 : ¬ q = some p2 := fun e => he ⟨hc1, e⟩
      have hz : lastZ q = (p1 : Nat) := by rw [hc1]; rfl
      have h21 : ¬ (p2 : Int) = (p1 : Int) := by
       intro e
       apply hc2
       rw [hc1]
       congr 1
       omega
      rw [hz]
      clear he hc1 hc2
      go_wp2_with (at_builtin; refine wpList_append_own _ rfl (.tmp 10) (.tmp 13) 27 rfl B 29 i0 z0 2 16 Tryz.underlying27 hi0 hz0 hz1 hz2 hz3 (by decide) (.slice va done.length vc) done.length (rowT done) rfl (own_drop HROW3.out ((Below.refl _ _).alloc (Nat.le_refl _) _)) ⟨W3.heap.size, 0, none⟩ 1 1 (thC (p1, p2)) rfl rfl ?n1 (thC_one _) ?n2 ?n3 ?n4 ?nx)
      case n1 => exact fun j u h => h
      case n2 => have := HDL.out; unfold maxLen; omega
      case n3 => have := HDL.out; omega
      case n4 => have := HB3.out.size; have := HB.out; omega
      case nx =>
       intro v' W5 hown hgr _
       have hb4 : Below W3.heap.size W3 (W3.alloc (.cells #[.int .i64 (p1 : Nat), .int .i64 (p2 : Nat)] 29)) := (Below.refl _ _).alloc (Nat.le_refl _) _
       have hr4 := own_drop HROW3.out hb4
       have r6 := blk_grown (blk_below HH6.out hb4) hgr (own_neK hr4 (blk_below HH6.out hb4) (by decide))
       have q2' : W5.cell? ⟨h6, 2, none⟩ = some (.int .i64 (p2 : Nat)) := (Lib.cell_of_heap r6 2).trans rfl
       have qz' := lt_blkB r6
       obtain ⟨b', cap', rfl⟩ := own_some hown (by omega)
       have hB3 : B ≤ W3.heap.size := Nat.le_trans HB.out HB3.out.size
       have HI : Hid (AllI B rb gb st ((K - k) * (l.length + 3)) g (.slice sa l.length sc) (done ++ [(p1, p2)]) (.slice (some ⟨b', 0, none⟩) (done ++ [(p1, p2)]).length cap') w W5) := Lib.hid ⟨⟨on1, gen1, vis1, A1, C1, vA1, vC1, gen_step HG1.out HG2.out hkK, (HR3.out.below hb4).grown hr4 hgr⟩, by
        rw [List.length_append, List.length_singleton, rowT_app]
        exact hown, HB3.out.trans ((hb4.mono hB3).trans (below_grown hr4 hgr (Nat.le_refl _) (Nat.le_trans hB3 hb4.size))), (HA3.out.below hb4).grown hr4 hgr⟩
       clear hown hgr hb4 hr4 r6 hB3
       go_wp2_with fail
       go_roundg k
       case measure => have := HGH.out; omega
       case rel => exact ⟨k, p2, some p2, done ++ [(p1, p2)], rest', some ⟨b', 0, none⟩, cap', rfl, by simp, rfl, rfl, by omega, fun x hx => by have := Option.some.inj hx; have := HP2.out; omega, HQ'.out, HLD'.out, by have := HDK.out; simp; omega, HI.out⟩
     ·have h1 : ¬ (p1 : Int) = lastZ q := by
       cases q with
       | none => simp only [lastZ]; omega
       | some x =>
        simp only [lastZ]
        intro e
        apply hc1
        congr 1
        omega
      generalize lastZ q = z at *
      clear he hc1
      go_wp2_with (at_builtin; refine wpList_append_own _ rfl (.tmp 10) (.tmp 13) 27 rfl B 29 i0 z0 2 16 Tryz.underlying27 hi0 hz0 hz1 hz2 hz3 (by decide) (.slice va done.length vc) done.length (rowT done) rfl (own_drop HROW3.out ((Below.refl _ _).alloc (Nat.le_refl _) _)) ⟨W3.heap.size, 0, none⟩ 1 1 (thC (p1, p2)) rfl rfl ?n1 (thC_one _) ?n2 ?n3 ?n4 ?nx)
      case n1 => exact fun j u h => h
      case n2 => have := HDL.out; unfold maxLen; omega
      case n3 => have := HDL.out; omega
      case n4 => have := HB3.out.size; have := HB.out; omega
      case nx =>
       intro v' W5 hown hgr _
       have hb4 : Below W3.heap.size W3 (W3.alloc (.cells #[.int .i64 (p1 : Nat), .int .i64 (p2 : Nat)] 29)) := (Below.refl _ _).alloc (Nat.le_refl _) _
       have hr4 := own_drop HROW3.out hb4
       have r6 := blk_grown (blk_below HH6.out hb4) hgr (own_neK hr4 (blk_below HH6.out hb4) (by decide))
       have q2' : W5.cell? ⟨h6, 2, none⟩ = some (.int .i64 (p2 : Nat)) := (Lib.cell_of_heap r6 2).trans rfl
       have qz' := lt_blkB r6
       obtain ⟨b', cap', rfl⟩ := own_some hown (by omega)
       have hB3 : B ≤ W3.heap.size := Nat.le_trans HB.out HB3.out.size
       have HI : Hid (AllI B rb gb st ((K - k) * (l.length + 3)) g (.slice sa l.length sc) (done ++ [(p1, p2)]) (.slice (some ⟨b', 0, none⟩) (done ++ [(p1, p2)]).length cap') w W5) := Lib.hid ⟨⟨on1, gen1, vis1, A1, C1, vA1, vC1, gen_step HG1.out HG2.out hkK, (HR3.out.below hb4).grown hr4 hgr⟩, by
        rw [List.length_append, List.length_singleton, rowT_app]
        exact hown, HB3.out.trans ((hb4.mono hB3).trans (below_grown hr4 hgr (Nat.le_refl _) (Nat.le_trans hB3 hb4.size))), (HA3.out.below hb4).grown hr4 hgr⟩
       clear hown hgr hb4 hr4 r6 hB3
       go_wp2_with fail
       go_roundg k
       case measure => have := HGH.out; omega
       case rel => exact ⟨k, p2, some p2, done ++ [(p1, p2)], rest', some ⟨b', 0, none⟩, cap', rfl, by simp, rfl, rfl, by omega, fun x hx => by have := Option.some.inj hx; have := HP2.out; omega, HQ'.out, HLD'.out, by have := HDK.out; simp; omega, HI.out⟩
def askP (g : List St) (st : Nat) (l : List Int) (a : Nat) : Option (Nat × Nat) := (askF (g, st) l (a : Nat) 1).1
theorem askP_ok {gb st : Nat} {g : List St} {w : World} (hA : AutA gb st g w) (l : List Int) : PassOk (askP g st l) l.length := fun a q hq => by
 have hf := ask_found (l := l) (G := (g, st)) hA.cl hA.ze hA.lt a 1
 rw [show (askF (g, st) l (a : Nat) 1).1 = some q from hq] at hf
 exact found_le hf
theorem sp_cells {w : World} {B : Nat} {v : Value} {L : Th} {k x f : Nat} (h : w.ownsRow B 29 2 v L.length (rowT L)) (hk : L[k]? = some (x, f)) : ∃ tb c, v = .slice (some ⟨tb, 0, none⟩) L.length c ∧ w.cell? ⟨tb, k * 2, none⟩ = some (.int .i64 (x : Nat)) ∧ w.cell? ⟨tb, k * 2 + 1, none⟩ = some (.int .i64 (f : Nat)) ∧ tb < w.heap.size := by
 have hkl : k < L.length := (List.getElem?_eq_some_iff.1 hk).1
 obtain ⟨_, ⟨_, hz⟩ | ⟨g, cap, cu, e, hB, hg, hnc, hcm, hcs, htk⟩⟩ := h
 ·omega
 obtain ⟨h1, h2⟩ := rowT_at L k _ hk
 refine ⟨g, cap, e, ?_, ?_, lt_blkB hg⟩
 ·rw [Lib.cell_of_heap hg]
  rw [← htk, List.getElem?_take, if_pos (by omega)] at h1
  simpa [intZ] using h1
 ·rw [Lib.cell_of_heap hg]
  rw [← htk, List.getElem?_take, if_pos (by omega)] at h2
  simpa [intZ] using h2
theorem sall_any (gb st : Nat) (g : List St) (v : Value) (l : List Int) (w : World) (hA : AutA gb st g w) (hs : Sl w v l) (hl : l.length ≤ 100000) :
  Calls Tryz.prog 8 #[.pointer (some ⟨gb, 0, none⟩), v] w fun r w' => ∃ L k va vc, allQ (askP g st l) k 0 none = some L ∧ L.length ≤ 2 * l.length + 4 ∧ r = .returned (.slice va L.length vc) ∧ w'.ownsRow w.heap.size 29 2 (.slice va L.length vc) L.length (rowT L) ∧ Below w.heap.size w w' := by
 obtain ⟨sa, sc, rfl, hby, hcell⟩ := hs.sub
 obtain ⟨L, hL⟩ := allQ_some (askP_ok hA l) (2 * l.length + 4) 0 none (fun x hx => by cases hx) (by omega) (by rw [if_neg (by simp)]; omega)
 have hKK : (2 * l.length + 4) * (l.length + 3) ≤ 1000000000000 := Nat.le_trans (Nat.mul_le_mul (show 2 * l.length + 4 ≤ 200004 by omega) (show l.length + 3 ≤ 100003 by omega)) (by decide)
 have HRO := Lib.hid (runOf_any (some ⟨gb, 0, none⟩) sa l.length sc w)
 have HAL : Hid (∀ X, X.heap[w.heap.size]? = some (.cells (runCells (.pointer (some ⟨gb, 0, none⟩)) (.slice sa l.length sc)) 78 (0, 0)) → Below w.heap.size w X → Calls Tryz.prog 14 #[.pointer (some ⟨w.heap.size, 0, none⟩)] X fun r w' => ∃ v, r = .returned v ∧ w'.ownsRow w.heap.size 29 2 v L.length (rowT L) ∧ Below w.heap.size w w') := Lib.hid (fun X h1 h2 => (srall_any w.heap.size w.heap.size gb st sc (2 * l.length + 4) g l sa L X (hA.below h2) (runB_new h1 (Nat.le_refl _) hA.n4) h2.size hby (by omega) (fun i hi => by
  obtain ⟨lb, lo, e1, e2, e3⟩ := hcell i hi
  exact ⟨lb, lo, e1, e2, (h2.cell (show (⟨lb, lo + i, none⟩ : Addr).block < w.heap.size from e2)).trans e3⟩) (askP_ok hA l) hL hKK).mono fun r w' hq => by
  obtain ⟨v, e1, e2, e3⟩ := hq
  exact ⟨v, e1, e2, h2.trans e3⟩)
 have HL := Lib.hid hL
 clear hA hs hby hcell hL hKK
 go_enter Tryz.func8, Tryz.ntmps8
 go_wp2_with fail
 refine HRO.out.mono ?_
 rintro r X1 ⟨rfl, hc1, hb1⟩
 have HPX := Lib.hid (HAL.out X1 hc1 hb1)
 clear hc1 hb1
 go_wp2_with fail
 refine HPX.out.mono ?_
 rintro r X2 ⟨v, rfl, hr, hb2⟩
 obtain ⟨va, vc, rfl⟩ := own_shapeR hr
 have HB2 := Lib.hid hb2
 have HR2 := Lib.hid hr
 clear hb2 hr
 go_wp2
 go_ret
 exact ⟨L, _, va, vc, HL.out, allQ_len _ _ _ _ HL.out, rfl, HR2.out, HB2.out⟩
end Go.Proofs.YtnpkcllbpnmabaaGreatDoor
