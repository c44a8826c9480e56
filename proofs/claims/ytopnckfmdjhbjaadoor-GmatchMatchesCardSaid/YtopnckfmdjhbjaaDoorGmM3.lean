/- Contracts of the law's few, read, awake. -/
import Derived.Test.YtopnckfmdjhbjaaDoorGlPar
import Derived.Lib.SliceRun
import Derived.Test.YtopnckfmdjhbjaaDoorGmM2
import Derived.BigQuiet
import Derived.Deep.QuietTactic
import Derived.Test.YtopnckfmdjhbjaaDoorShelf
import Derived.Shelf.SlicesQ.Reverse
import Derived.Shelf.SlicesE.Reverse
import Derived.Lib.OwnBridge
import Derived.Test.YtopnckfmdjhbjaaDoorSeMor
import Derived.Lib.SlBytesConst
/- The contract of Pieces; a piece of a row, cell by cell. -/
namespace Go.Proofs.YtopnckfmdjhbjaaDoor
open Go.RowKit

theorem pcs_at : ∀ (ps : List Pc) (k : Nat) (x : Pc), ps[k]? = some x → ∀ i, i < 5 → (cellsL ps)[k * 5 + i]? = x.cells[i]?
  | [], k, x, h, _, _ => by simp at h
  | y :: r, 0, x, h, i, hi => by
    simp only [List.getElem?_cons_zero, Option.some.injEq] at h
    subst h
    rw [Nat.zero_mul, Nat.zero_add]
    show (y.cells ++ cellsL r)[i]? = _
    rw [List.getElem?_append_left (by exact hi)]
  | y :: r, k + 1, x, h, i, hi => by
    have ih := pcs_at r k x (by simpa using h) i hi
    show (y.cells ++ cellsL r)[(k + 1) * 5 + i]? = _
    rw [List.getElem?_append_right (by show 5 ≤ _; omega), ← ih]
    congr 1
    show (k + 1) * 5 + i - 5 = _
    omega
/-- The cells of a piece in its row. -/
theorem piece_at {X : World} {B g n capv : Nat} {ps : List Pc} (h : X.ownsRow B 66 5 (.slice (some ⟨g, 0, none⟩) n capv) n (cellsL ps)) {k : Nat} {x : Pc} (hk : ps[k]? = some x) (i : Nat) (hi : i < 5) (y : Value) (hy : x.cells[i]? = some y) : X.cell? ⟨g, k * 5 + i, none⟩ = some y := by
  have := h.cells (g := g) rfl (k * 5 + i) y (by rw [pcs_at ps k x hk i hi, hy])
  rw [WideShapes.add_plain, Nat.zero_add] at this
  exact this

theorem own_shp {w : World} {B : Nat} {e : TypeId} {s : Nat} {v : Value} {n : Nat} {xs : List Value} (h : w.ownsRow B e s v n xs) : ∃ a0 cap, v = .slice a0 n cap := own_shapeK h

set_option maxRecDepth 100000 in
set_option maxHeartbeats 8000000 in
/-- A copy of the pieces. -/
theorem pieces_own (B b : Nat) (ps : List Pc) (w : World) (h : PatAt B b ps w) (hl : ps.length ≤ 1048576) :
    Calls Tryd.prog 23 #[.pointer (some ⟨b, 0, none⟩)] w fun x w' => ∃ v, x = .returned v ∧ w'.ownsRow w.heap.size 66 5 v ps.length (cellsL ps) ∧ Below w.heap.size w w' := by
  obtain ⟨hB, v, u, hpb, hrow, hplain⟩ := h
  obtain ⟨i0, z0, hi, hz0, hz1, hz2, hz3⟩ := piece_parts
  obtain ⟨⟨c0, c1⟩, _, hbz⟩ := cells2 hpb
  have q48 : ∀ (w : World) (a : Option Addr) (n c n' c' : Nat), (binOp .eql 26 (.slice a n c) (.slice none n' c')).run Tryd.prog w = .ok (.bool a.isNone) w := fun w a n c n' c' => Lib.run_eql_slice_nil w _ _ a n c n' c' Tryd.underlying26
  have HC : Hid (Calls Tryd.prog 43 #[v] w fun x w' => ∃ v, x = .returned v ∧ w'.ownsRow w.heap.size 66 5 v ps.length (cellsL ps) ∧ Below w.heap.size w w') := by
    rcases hrow.2 with ⟨rfl, h0⟩ | ⟨g, cap, cur, rfl, hgl, hgb, hnc, hcm, hcz, htk⟩
    · have hp : ps = [] := List.length_eq_zero_iff.1 h0
      subst hp
      clear hrow hplain hpb
      refine Lib.hid ?_
      go_enter Tryd.func43, Tryd.ntmps43
      go_wp2
      go_ret
      exact ⟨_, rfl, World.ownsRow_nil _ _ _ _, Below.refl _ _⟩
    · have hnews : ∀ j y, (cellsL ps)[j]? = some y → (w.alloc (.cells #[] 66)).cell? ((⟨g, 0, none⟩ : Addr).add j) = some y := fun j y hj => by
        have h1 := (hrow.alloc (.cells #[] 66)).cells (g := g) rfl j y hj
        exact h1
      have hone : ∀ y ∈ cellsL ps, y.oneCell' = true := fun y hy => by
        unfold cellsL at hy
        obtain ⟨x, hx, hyx⟩ := List.mem_flatten.1 hy
        obtain ⟨p, _, rfl⟩ := List.mem_map.1 hx
        exact one5 _ _ _ _ _ y hyx
      have hown0 := World.ownsRow_made (base := w.heap.size) (e := 66) (size := 5) w #[] 0 (Nat.le_refl _) (by unfold maxLen; omega) rfl
      have HN := Lib.hid hnews
      have HON := Lib.hid hone
      have HO0 := Lib.hid hown0
      have hcl := cellsL_len ps
      have HCL := Lib.hid hcl
      clear hrow hplain hpb hnews hone hown0 hgb hcz htk hcl
      refine Lib.hid ?_
      go_enter Tryd.func43, Tryd.ntmps43
      go_wp2_with (at_builtin; refine wpList_append_own _ rfl _ _ 26 rfl w.heap.size 66 i0 z0 5 40 Tryd.underlying26 hi hz0 hz1 hz2 hz3 (by decide) _ _ _ rfl HO0.out ⟨g, 0, none⟩ ps.length cap (cellsL ps) rfl HCL.out HN.out HON.out (by unfold maxLen; omega) (by omega) (by simp) ?_)
      intro v' w4 hown' hgr _
      have HE : Hid (w4.ownsRow w.heap.size 66 5 v' ps.length (cellsL ps) ∧ Below w.heap.size w w4) := Lib.hid ⟨by simpa using hown', ((Below.refl w.heap.size w).alloc (Nat.le_refl _) _).grown hgr (by simp) (fun k hk => (HO0.out.lt k hk).1)⟩
      clear hown' hgr
      go_wp2
      go_ret
      exact ⟨_, rfl, HE.out.1, HE.out.2⟩
  clear hrow hplain hpb
  obtain ⟨vv, hvv⟩ : ∃ vv, vv = v := ⟨_, rfl⟩
  go_enter Tryd.func23, Tryd.ntmps23
  go_wp2_with fail
  refine HC.out.mono ?_
  rintro x w1 ⟨v', rfl, hown, hb1⟩
  have HE : Hid (w1.ownsRow w.heap.size 66 5 v' ps.length (cellsL ps) ∧ Below w.heap.size w w1) := Lib.hid ⟨hown, hb1⟩
  clear hown hb1
  go_wp2
  go_ret
  exact ⟨_, rfl, HE.out.1, HE.out.2⟩
end Go.Proofs.YtopnckfmdjhbjaaDoor
/- The contract of endsOf. -/
namespace Go.Proofs.YtopnckfmdjhbjaaDoor
open Go.RowKit

/-- What lies while the pieces are gone through. -/
structure EI (s : List Int) (ps : List Pc) (w0 : World) (sv : Value) (r n k : Nat) (X : World) : Prop where
  bel : Below w0.heap.size w0 X
  ge : w0.heap.size ≤ r
  st : ∃ b1 b2 t P Q, X.heap[r]? = some (.cells #[sv, slv b1 n, slv b2 n, .int .i64 (t : Nat)] 118 (0, 0)) ∧ PL X b1 n P ∧ PL X b2 n Q ∧ w0.heap.size ≤ b1 ∧ w0.heap.size ≤ b2 ∧ b1 ≠ b2 ∧ Fits s P ∧
    endsP s (ps.drop k) P = epl ps s ∧ t + cends s (ps.drop k) P = cends s ps P0
theorem run_ne {X : World} {r b n : Nat} {P : Nat → Bool} {cs : Array Value} (h : PL X b n P) (hr : X.heap[r]? = some (.cells cs 118 (0, 0))) : r ≠ b := fun e => by
  obtain ⟨c, hb, _⟩ := h; rw [← e, hr] at hb; simp at hb
theorem p0_plus : plus (fun _ => false) 0 = P0 := by funext k; unfold plus P0; simp

theorem betw_many {s : List Int} {P : Nat → Bool} {k0 : Nat} (hk : P k0 = true) (hl : ∀ j, j < k0 → P j = false) (k : Nat) : betw k0 s.length k = stp s .many P k := by
  unfold betw
  rw [Bool.eq_iff_iff, stp_iff]
  simp only [Bool.and_eq_true, decide_eq_true_eq]
  constructor
  · rintro ⟨h1, h2⟩
    exact ⟨k0, h1, h2, hk, trivial⟩
  · rintro ⟨i, h1, h2, h3, _⟩
    refine ⟨Nat.le_of_not_lt fun h => ?_, h2⟩
    rw [hl i (by omega)] at h3; cases h3
theorem drop_at {ps : List Pc} {k : Nat} {x : Pc} (h : ps[k]? = some x) : ps.drop k = x :: ps.drop (k + 1) := by
  obtain ⟨hk, he⟩ := List.getElem?_eq_some_iff.1 h
  rw [List.drop_eq_getElem_cons hk, he]
theorem run_set1 {X : World} {b : Nat} {v0 v1 v2 v3 y : Value} {T : TypeId} (h : X.heap[b]? = some (.cells #[v0, v1, v2, v3] T (0, 0))) : (X.setCell ⟨b, 1, none⟩ y).heap[b]? = some (.cells #[v0, y, v2, v3] T (0, 0)) := by
  show (X.heap.modify b _)[b]? = _
  rw [Array.getElem?_modify, if_pos rfl, h]
  rfl
theorem run_set2 {X : World} {b : Nat} {v0 v1 v2 v3 y : Value} {T : TypeId} (h : X.heap[b]? = some (.cells #[v0, v1, v2, v3] T (0, 0))) : (X.setCell ⟨b, 2, none⟩ y).heap[b]? = some (.cells #[v0, v1, y, v3] T (0, 0)) := by
  show (X.heap.modify b _)[b]? = _
  rw [Array.getElem?_modify, if_pos rfl, h]
  rfl
/-- A piece is done: the two sets change places. -/
theorem EI.swap {s : List Int} {ps : List Pc} {w0 : World} {sv : Value} {r n k : Nat} {X : World} {b1 b2 t t' : Nat} {P : Nat → Bool} {x : Pc} (hx : ps[k]? = some x) (hbel : Below w0.heap.size w0 X) (hr : w0.heap.size ≤ r)
    (hrun : X.heap[r]? = some (.cells #[sv, slv b1 n, slv b2 n, .int .i64 (t' : Nat)] 118 (0, 0))) (h1 : PL X b1 n P) (h2 : PL X b2 n (stp s x P)) (g1 : w0.heap.size ≤ b1) (g2 : w0.heap.size ≤ b2) (h12 : b1 ≠ b2)
    (ht : t' = t + cstp s x P) (he : endsP s (ps.drop k) P = epl ps s) (hc : t + cends s (ps.drop k) P = cends s ps P0) :
    EI s ps w0 sv r n (k + 1) ((X.setCell ⟨r, 1, none⟩ (slv b2 n)).setCell ⟨r, 2, none⟩ (slv b1 n)) := by
  have n1 := run_ne h1 hrun
  have n2 := run_ne h2 hrun
  rw [drop_at hx] at he hc
  refine ⟨(hbel.setCell hr _).setCell hr _, hr, b2, b1, t', stp s x P, P, ?_, ((h2.other (fun e => n2 e.symm) _).other (fun e => n2 e.symm) _), ((h1.other (fun e => n1 e.symm) _).other (fun e => n1 e.symm) _), g2, g1, fun e => h12 e.symm, stp_fits s x P, he, ?_⟩
  · exact run_set2 (run_set1 hrun)
  · rw [ht]
    have : cends s (x :: ps.drop (k + 1)) P = cstp s x P + cends s (ps.drop (k + 1)) (stp s x P) := rfl
    omega
theorem EI.drew {s : List Int} {ps : List Pc} {w0 : World} {sv : Value} {r n k : Nat} {X : World} (h : EI s ps w0 sv r n k X) : EI s ps w0 sv r n k X.drew := ⟨h.bel.drew, h.ge, h.st⟩

set_option maxRecDepth 100000 in
set_option maxHeartbeats 16000000 in
theorem ends_any (s : List Int) (ps : List Pc) (sv v : Value) (B : Nat) (w : World) (hT : TZ w) (hs : Sl w sv s) (hlen : s.length ≤ 1099511627776) (hrow : w.ownsRow B 66 5 v ps.length (cellsL ps)) (hl : ps.length ≤ 1048576) :
    Calls Tryd.prog 37 #[v, sv] w fun e w' => ∃ b, e = .returned (.tuple #[.slice (some ⟨b, 0, none⟩) (s.length / 64 + 1) (s.length / 64 + 1), .int .i64 (cends s ps P0 : Nat)]) ∧ PL w' b (s.length / 64 + 1) (epl ps s) ∧ Below w.heap.size w w' := by
  obtain ⟨n, hn⟩ : ∃ n, n = s.length / 64 + 1 := ⟨_, rfl⟩
  obtain ⟨len, hle⟩ : ∃ l, l = s.length := ⟨_, rfl⟩
  obtain ⟨sa, sc, hsv⟩ : ∃ a c, sv = .slice a len c := by
    rw [hle]
    rcases hs.2.2 with ⟨rfl, a, cap, rfl⟩ | ⟨x, o, cap, rfl, _⟩
    · exact ⟨a, cap, rfl⟩
    · exact ⟨_, cap, rfl⟩
  subst hsv
  obtain ⟨pa, pc, hpv⟩ := own_shp hrow
  obtain ⟨m, hm⟩ : ∃ m, m = ps.length := ⟨_, rfl⟩
  rw [← hm] at hpv hl
  subst hpv
  have hN1 := Lib.hid (noPlaces_any len (by omega) w)
  rw [show len / 64 + 1 = n by omega] at hN1
  have hN2 := Lib.hid (fun X => noPlaces_any len (by omega) X)
  rw [show len / 64 + 1 = n by omega] at hN2
  have HA := Lib.hid (fun (b : Nat) (P : Nat → Bool) (X : World) (h : PL X b n P) => addP_any b n 0 P X h (by omega) (by omega))
  rw [← hn]
  have hnb : n ≤ 2199023255553 := by omega
  have HNN : Hid (s.length / 64 + 1 = n) := Lib.hid hn.symm
  have HLE := Lib.hid hle
  have HM := Lib.hid hm
  have HT := Lib.hid hT
  have HS := Lib.hid hs
  have HROW := Lib.hid hrow
  have hn0 : 0 < n := by omega
  clear hn hle hm hT hs hrow
  go_enter Tryd.func37, Tryd.ntmps37
  go_wp2_with fail
  refine hN1.out.mono ?_
  rintro e w1 ⟨rfl, rfl⟩
  go_wp2_with fail
  refine (hN2.out _).mono ?_
  rintro e w2 ⟨rfl, rfl⟩
  go_wp2_with fail
  obtain ⟨W, hW⟩ : ∃ W, W = ((w.alloc (.cells (madeCells #[.int .u64 0] n) 51)).alloc (.cells (madeCells #[.int .u64 0] n) 51)).alloc (.cells #[.slice sa len sc, .slice (some ⟨w.heap.size, 0, none⟩) n n, .slice (some ⟨w.heap.size + 1, 0, none⟩) n n, .int .i64 0] 118) := ⟨_, rfl⟩
  rw [← hW]
  have HP1 : Hid (PL W w.heap.size n (fun _ => false)) := Lib.hid (by rw [hW]; exact ((PL.made w n).alloc _).alloc _)
  have HP2 : Hid (PL W (w.heap.size + 1) n (fun _ => false)) := Lib.hid (by rw [hW]; have := PL.made (w.alloc (.cells (madeCells #[.int .u64 0] n) 51)) n; rw [World.size_alloc] at this; exact this.alloc _)
  have HRN : Hid (W.heap[w.heap.size + 2]? = some (.cells #[.slice sa len sc, slv w.heap.size n, slv (w.heap.size + 1) n, .int .i64 ((0 : Nat) : Int)] 118 (0, 0))) := Lib.hid (by
    have := alloc_last ((w.alloc (.cells (madeCells #[.int .u64 0] n) 51)).alloc (.cells (madeCells #[.int .u64 0] n) 51)) (.cells #[.slice sa len sc, .slice (some ⟨w.heap.size, 0, none⟩) n n, .slice (some ⟨w.heap.size + 1, 0, none⟩) n n, .int .i64 0] 118)
    rw [World.size_alloc, World.size_alloc, ← hW] at this
    exact this)
  have HBW : Hid (Below w.heap.size w W) := Lib.hid (by rw [hW]; exact (((Below.refl _ _).alloc (Nat.le_refl _) _).alloc (by simp) _).alloc (by simp; omega) _)
  clear hW
  have hA1 := HA.out w.heap.size (fun _ => false) W HP1.out
  rw [p0_plus] at hA1
  have HA1 := Lib.hid hA1
  clear hA1
  go_wp2_with fail
  refine HA1.out.mono ?_
  rintro e w3 ⟨rfl, hp3, hg3⟩
  have HI0 : Hid (EI s ps w (.slice sa len sc) (w.heap.size + 2) n 0 w3) := Lib.hid ⟨HBW.out.grown hg3 HBW.out.size (fun k hk => by obtain rfl := Option.some.inj hk; exact Nat.le_refl _), by omega, w.heap.size, w.heap.size + 1, 0, P0, fun _ => false, blk_grown HRN.out hg3 (by simp), hp3, HP2.out.kept (hg3.block _ HP2.out.lt (by simp)), Nat.le_refl _, by omega, by omega, P0_fits s, rfl, by rw [Nat.zero_add]; rfl⟩
  obtain ⟨r, hr⟩ : ∃ r, r = w.heap.size + 2 := ⟨_, rfl⟩
  have hr0 : w.heap.size ≤ r := by omega
  rw [← hr] at HI0 ⊢
  clear hr hp3 hg3 HA1 HP1 HP2 HRN HBW hN1 hN2
  go_wp2_with fail
  go_loopw [27] (fun i X => ∃ k : Nat, i = .int .i64 k ∧ k ≤ m ∧ EI s ps w (.slice sa len sc) r n k X) (fun i _ => m - (intOf i).toNat)
  case atStart => exact ⟨0, rfl, Nat.zero_le _, HI0.out⟩
  case round =>
    obtain ⟨k, rfl, hk, hI⟩ := hrel
    obtain ⟨hbel, _, b1, b2, t, P, Q, hrun, hpl1, hpl2, hg1, hg2, h12, hf, he, hct⟩ := hI
    obtain ⟨⟨c0, c1, c2, c3⟩, hfz, hrz⟩ := cells4b hrun
    unfold slv at c1 c2
    have HBEL := Lib.hid hbel
    have HRUN := Lib.hid hrun
    have HPL1 := Lib.hid hpl1
    have HPL2 := Lib.hid hpl2
    have HF := Lib.hid hf
    have HE := Lib.hid he
    have HCT := Lib.hid hct
    clear hbel hrun hpl1 hpl2 hf he hct
    by_cases hlt : k < m
    · have hltL : k < ps.length := by rw [← HM.out]; exact hlt
      obtain ⟨x, hx⟩ : ∃ x, ps[k]? = some x := ⟨ps[k], List.getElem?_eq_getElem hltL⟩
      have hro := HROW.out
      rw [← HM.out] at hro
      obtain ⟨g, hg⟩ : ∃ g, pa = some ⟨g, 0, none⟩ := by
        rcases hro.2 with ⟨_, h0⟩ | ⟨g, cap', cur, e, _⟩
        · omega
        · simp only [Value.slice.injEq] at e
          exact ⟨g, e.1⟩
      subst hg
      have hro2 := own_drop hro HBEL.out
      have p0 := piece_at hro2 hx 0 (by decide) _ rfl
      have p1 := piece_at hro2 hx 1 (by decide) _ rfl
      have p2 := piece_at hro2 hx 2 (by decide) _ rfl
      have p3 := piece_at hro2 hx 3 (by decide) _ rfl
      have p4 := piece_at hro2 hx 4 (by decide) _ rfl
      rw [Nat.add_zero] at p0
      have hkI : (k : Int) < (m : Int) := by omega
      have HXX := Lib.hid hx
      clear hro hro2 hx
      go_wp2_with fail
      obtain ⟨bx, hbx⟩ : ∃ bx, bx = wr.heap.size := ⟨_, rfl⟩
      obtain ⟨X1, hX1⟩ : ∃ X, X = wr.alloc (.cells #[.int .i64 x.kind, .int .u64 (sw x.set 0 : Nat), .int .u64 (sw x.set 1 : Nat), .int .u64 (sw x.set 2 : Nat), .int .u64 (sw x.set 3 : Nat)] 66) := ⟨_, rfl⟩
      rw [← hX1, ← hbx]
      have HB1 : Hid (Below w.heap.size w X1) := Lib.hid (by rw [hX1]; exact HBEL.out.alloc HBEL.out.size _)
      have HR1 : Hid (X1.heap[r]? = some (.cells #[.slice sa len sc, slv b1 n, slv b2 n, .int .i64 (t : Nat)] 118 (0, 0))) := Lib.hid (by rw [hX1]; exact blk_alloc HRUN.out _)
      have HQ1 : Hid (PL X1 b1 n P) := Lib.hid (by rw [hX1]; exact HPL1.out.alloc _)
      have HQ2 : Hid (PL X1 b2 n Q) := Lib.hid (by rw [hX1]; exact HPL2.out.alloc _)
      have HBX : Hid (X1.heap[bx]? = some ((.cells #[.int .i64 x.kind, .int .u64 (sw x.set 0 : Nat), .int .u64 (sw x.set 1 : Nat), .int .u64 (sw x.set 2 : Nat), .int .u64 (sw x.set 3 : Nat)] 66 (0, 0)))) := Lib.hid (by rw [hX1, hbx]; exact alloc_last wr _)
      clear hX1 hbx c0 c1 c2 c3 hfz hrz p0 p1 p2 p3 p4 HRUN HPL1 HPL2 HBEL
      have hL := leastP_any b1 n P X1 (HT.out.below HB1.out) HQ1.out hnb
      rcases lea_cases P (64 * n) with ⟨k0, hk0, hpk, hno, hlea⟩ | ⟨hno, hlea⟩
      · rw [hlea] at hL
        have HL : Hid (Calls Tryd.prog 71 #[.slice (some ⟨b1, 0, none⟩) n n] X1 fun e w' => e = .returned (.tuple #[.int .i64 (k0 : Nat), .bool true]) ∧ w' = X1) := Lib.hid hL
        have HPK := Lib.hid hpk
        have HNO := Lib.hid hno
        have hk0l : k0 ≤ len := by rw [HLE.out]; exact HF.out k0 hpk
        clear hL hlea hpk hno
        obtain ⟨⟨q0, q1, q2, q3⟩, _, qrz⟩ := cells4b HR1.out
        unfold slv at q2
        clear q0 q1 q3
        have hclr := clear_run HQ2.out hn0
        obtain ⟨hcl1, hcl2⟩ := HQ2.out.clear
        obtain ⟨X2, hX2⟩ : ∃ X, X = X1.setCells b2 0 (List.replicate n (.int .u64 0)) := ⟨_, rfl⟩
        rw [← hX2] at hclr hcl1 hcl2
        have HP22 := Lib.hid hcl1
        have HG2 := Lib.hid hcl2
        have hbx2 : bx ≠ b2 := fun e => by obtain ⟨cs, hb, _⟩ := HQ2.out; rw [← e, HBX.out] at hb; simp at hb
        have HBX2 : Hid (X2.heap[bx]? = some ((.cells #[.int .i64 x.kind, .int .u64 (sw x.set 0 : Nat), .int .u64 (sw x.set 1 : Nat), .int .u64 (sw x.set 2 : Nat), .int .u64 (sw x.set 3 : Nat)] 66 (0, 0)))) := Lib.hid (blk_grown HBX.out hcl2 (by simpa using fun e : b2 = bx => hbx2 e.symm))
        have HR2 : Hid (X2.heap[r]? = some (.cells #[.slice sa len sc, slv b1 n, slv b2 n, .int .i64 (t : Nat)] 118 (0, 0))) := Lib.hid (blk_grown HR1.out hcl2 (by simpa using fun e : b2 = r => run_ne HQ2.out HR1.out e.symm))
        have HP21 : Hid (PL X2 b1 n P) := Lib.hid (HQ1.out.kept (hcl2.block _ HQ1.out.lt (by simpa using h12)))
        have HB2 : Hid (Below w.heap.size w X2) := Lib.hid (HB1.out.grown hcl2 HB1.out.size (fun k hk => by obtain rfl := Option.some.inj hk; exact hg2))
        obtain ⟨x0, x1, x2, x3, x4⟩ := cells5 HBX2.out
        have hbz := lt_blkB HBX2.out
        obtain ⟨⟨y0, y1, y2, y3⟩, _, yrz⟩ := cells4b HR2.out
        unfold slv at y2
        clear hX2 hcl1 hcl2 hbx2 y0 y1 y3
        by_cases hmany : x = .many
        · have hk3 : (x.kind == 3) = true := by rw [hmany]; rfl
          have HFI := Lib.hid (fill_any b2 n k0 len X2 HP22.out hk0l (by rw [HLE.out]; exact HNN.out) hnb)
          have HXM := Lib.hid hmany
          clear hmany
          go_wp2_with fail
          refine HL.out.mono ?_
          rintro e w4 ⟨rfl, rfl⟩
          go_wp2_with fail
          refine HFI.out.mono ?_
          rintro e X3 ⟨rfl, hp3, hg3⟩
          have HP32 : Hid (PL X3 b2 n (stp s x P)) := Lib.hid (hp3.congr fun i _ => sw_congrP fun j _ => by rw [HXM.out, ← betw_many HPK.out HNO.out, HLE.out])
          have HP31 : Hid (PL X3 b1 n P) := Lib.hid (HP21.out.kept (hg3.block _ HP21.out.lt (by simpa using h12)))
          have HR3 : Hid (X3.heap[r]? = some (.cells #[.slice sa len sc, slv b1 n, slv b2 n, .int .i64 (t : Nat)] 118 (0, 0))) := Lib.hid (blk_grown HR2.out hg3 (by simpa using fun e : b2 = r => run_ne HP22.out HR2.out e.symm))
          have HB3 : Hid (Below w.heap.size w X3) := Lib.hid (HB2.out.grown hg3 HB2.out.size (fun k hk => by obtain rfl := Option.some.inj hk; exact hg2))
          have HT3 : Hid (t = t + cstp s x P) := Lib.hid (by rw [HXM.out]; rfl)
          clear hp3 hg3 hclr x0 x1 x2 x3 x4 y2 yrz q2 qrz
          obtain ⟨⟨q0, q1, q2, q3⟩, _, qrz⟩ := cells4b HR3.out
          have qf1 := Lib.frozen_of_heap HR3.out 1
          have qf2 := Lib.frozen_of_heap HR3.out 2
          unfold slv at q1 q2
          have HSW := Lib.hid (EI.swap HXX.out HB3.out hr0 HR3.out HP31.out HP32.out hg1 hg2 h12 HT3.out HE.out HCT.out)
          unfold slv at HSW
          clear q0 q3
          go_wp2_with fail
          go_region
          all_goals
            go_wp2_with fail
            go_roundw
            case rel => exact ⟨k + 1, by go_num, by omega, HSW.out.drew⟩
            case measure => simp [intOf]; omega
        · have hk3 : (x.kind == 3) = false := by cases x <;> first | exact absurd rfl hmany | rfl
          have htb : t ≤ 4611686018427387904 := by
            have h1 := HCT.out
            have h2 := cends_le s ps P0
            have h3 : s.length * ps.length ≤ 1099511627776 * 1048576 := Nat.mul_le_mul hlen (by rw [← HM.out]; exact hl)
            omega
          have HCM := Lib.hid (cmp_any s x hmany P HF.out k0 HPK.out (by omega) (.slice sa len sc) b1 b2 r t htb w X2 HT.out HS.out HB2.out hg2 hr0 h12 n HNN.out HR2.out HP21.out HP22.out)
          have hxv : x.v = .agg #[.int .i64 x.kind, .int .u64 (sw x.set 0 : Nat), .int .u64 (sw x.set 1 : Nat), .int .u64 (sw x.set 2 : Nat), .int .u64 (sw x.set 3 : Nat)] := rfl
          rw [hxv] at HCM
          have HXM := Lib.hid hmany
          clear hmany hxv htb
          go_wp2_with fail
          refine HL.out.mono ?_
          rintro e w4 ⟨rfl, rfl⟩
          go_wp2_with fail
          refine HCM.out.mono ?_
          rintro e X3 ⟨rfl, bp, hci⟩
          have HP32 : Hid (PL X3 b2 n (stp s x P)) := Lib.hid (hci.full (Nat.le_refl _))
          have HP31 : Hid (PL X3 b1 n P) := Lib.hid hci.p1
          have HR3 := Lib.hid hci.run
          have HB3 : Hid (Below w.heap.size w X3) := Lib.hid hci.bel
          have HT3 : Hid (t + cntP P s.length = t + cstp s x P) := Lib.hid (by
            have := HXM.out
            cases x
            · exact absurd rfl this
            · rfl
            · rfl)
          clear hci hclr x0 x1 x2 x3 x4 y2 yrz q2 qrz
          obtain ⟨⟨q0, q1, q2, q3⟩, _, qrz⟩ := cells4b HR3.out
          have qf1 := Lib.frozen_of_heap HR3.out 1
          have qf2 := Lib.frozen_of_heap HR3.out 2
          unfold slv at q1 q2
          have HSW := Lib.hid (EI.swap HXX.out HB3.out hr0 HR3.out HP31.out HP32.out hg1 hg2 h12 HT3.out HE.out HCT.out)
          unfold slv at HSW
          clear q0 q3
          go_wp2_with fail
          go_region
          all_goals
            go_wp2_with fail
            go_roundw
            case rel => exact ⟨k + 1, by go_num, by omega, HSW.out.drew⟩
            case measure => simp [intOf]; omega
      · rw [hlea] at hL
        have HL : Hid (Calls Tryd.prog 71 #[.slice (some ⟨b1, 0, none⟩) n n] X1 fun e w' => e = .returned (.tuple #[.int .i64 0, .bool false]) ∧ w' = X1) := Lib.hid hL
        have hall : ∀ j, P j = false := fun j => by
          cases hp : P j
          · rfl
          · have h1 := HF.out j hp
            have h2 := HNN.out
            rw [hno j (by omega)] at hp; cases hp
        have HRES : Hid (cends s ps P0 = t ∧ PL X1 b1 n (epl ps s) ∧ Below w.heap.size w X1.drew) := Lib.hid ⟨by
          have h1 := HCT.out
          rw [cends_none s _ P hall] at h1
          omega, HQ1.out.congr fun i _ => sw_congrP fun j _ => by
            rw [← HE.out, ends_none s _ P hall, hall], HB1.out.drew⟩
        clear hL hlea hno hall
        obtain ⟨⟨q0, q1, q2, q3⟩, _, qrz⟩ := cells4b HR1.out
        unfold slv at q1
        clear q0 q2
        go_wp2_with fail
        refine HL.out.mono ?_
        rintro e w4 ⟨rfl, rfl⟩
        go_wp2_with fail
        go_region
        all_goals
          go_wp2
          go_ret2
          exact ⟨b1, by rw [HRES.out.1]; rfl, HRES.out.2.1, HRES.out.2.2⟩
    · have hkm : k = ps.length := by rw [← HM.out]; omega
      have HRES : Hid (cends s ps P0 = t ∧ PL wr b1 n (epl ps s) ∧ Below w.heap.size w wr.drew) := Lib.hid ⟨by
        have h1 := HCT.out
        rw [hkm, List.drop_length] at h1
        exact h1.symm, HPL1.out.congr fun i _ => sw_congrP fun j _ => by
          have h1 := HE.out
          rw [hkm, List.drop_length] at h1
          rw [← h1]; rfl, HBEL.out.drew⟩
      clear hkm c0 c2
      go_wp2_with fail
      go_region
      all_goals
        go_wp2
        go_ret2
        exact ⟨b1, by rw [HRES.out.1]; rfl, HRES.out.2.1, HRES.out.2.2⟩
end Go.Proofs.YtopnckfmdjhbjaaDoor
/- slices.Reverse at bytes and at pieces, bytes.Clone: of rows of one's own. -/
namespace Go.Proofs.YtopnckfmdjhbjaaDoor
open Go.RowKit

instance : Inhabited Pc := ⟨.many⟩
def renB : Go.Shelf.Ren := ⟨fun | 35 => 42 | n => n, fun | 0 => 0 | 3 => 3 | 4 => 4 | 22 => 22 | 23 => 5 | n => n, fun n => n⟩
def renQ : Go.Shelf.Ren := ⟨fun | 35 => 41 | n => n, fun | 0 => 0 | 3 => 3 | 4 => 4 | 22 => 26 | 23 => 66 | n => n, fun n => n⟩
theorem laysB : Go.Proofs.SlLaysE.n35 Tryd.prog renB := {
  mixed := by kernel_rfl
  f35 := ⟨(Tryd.f42).name, by kernel_rfl, Tryd.func42.trans (congrArg some (by kernel_rfl))⟩
  t0 := by kernel_rfl
  a0 := fun _ => by kernel_rfl
  z0 := fun _ => by kernel_rfl
  v0 := fun _ => by kernel_rfl
  t3 := by kernel_rfl
  a3 := fun _ => by kernel_rfl
  z3 := fun _ => by kernel_rfl
  v3 := fun _ => by kernel_rfl
  t4 := by kernel_rfl
  a4 := fun _ => by kernel_rfl
  z4 := fun _ => by kernel_rfl
  v4 := fun _ => by kernel_rfl
  t22 := by kernel_rfl
  a22 := fun _ => by kernel_rfl
  z22 := fun _ => by kernel_rfl
  v22 := fun _ => by kernel_rfl
  a23 := fun _ => by kernel_rfl
  z23 := fun _ => by kernel_rfl }
theorem laysQ : Go.Proofs.SlLaysE0.n35 Tryd.prog renQ := {
  mixed := by kernel_rfl
  f35 := ⟨(Tryd.f41).name, by kernel_rfl, Tryd.func41.trans (congrArg some (by kernel_rfl))⟩
  t0 := by kernel_rfl
  a0 := fun _ => by kernel_rfl
  z0 := fun _ => by kernel_rfl
  v0 := fun _ => by kernel_rfl
  t3 := by kernel_rfl
  a3 := fun _ => by kernel_rfl
  z3 := fun _ => by kernel_rfl
  v3 := fun _ => by kernel_rfl
  t4 := by kernel_rfl
  a4 := fun _ => by kernel_rfl
  z4 := fun _ => by kernel_rfl
  v4 := fun _ => by kernel_rfl
  t22 := by kernel_rfl
  a22 := fun _ => by kernel_rfl
  z22 := fun _ => by kernel_rfl
  v22 := fun _ => by kernel_rfl }

theorem grown_putRow {α : Type} [Inhabited α] (enc : α → Value) (w : World) (g q : Nat) (d : Array α) : w.grownBy (Sort.putRow enc (Sort.ahead w q) g 0 d) (some g) :=
  ⟨rfl, rfl, rfl, by simp [Sort.putRow, Sort.mapBlock, Sort.ahead], fun k _ hne => by
    have : g ≠ k := fun e => hne (by rw [e])
    simp [Sort.putRow, Sort.mapBlock, Sort.ahead, Array.getElem?_modify, this]⟩
theorem one_u8 : Go.Proofs.OneCell (Value.int .u8) := fun _ => rfl
/-- The bytes of a row of one's own, turned. -/
theorem revB_any (B : Nat) (v : Value) (s : List Int) (w : World) (h : w.ownsRow B 5 1 v s.length (s.map (Value.int .u8))) (hl : s.length ≤ 9223372036854775807) :
    Calls Tryd.prog 42 #[v] w fun e w' => e = .returned (.tuple #[]) ∧ w'.ownsRow B 5 1 v s.length (s.reverse.map (Value.int .u8)) ∧ w.grownBy w' v.ownBlock := by
  by_cases hv : v = .slice none 0 0
  · subst hv
    have h0 : s = [] := by
      rcases h.2 with ⟨_, e⟩ | ⟨g, cap, cur, e, _⟩
      · exact List.length_eq_zero_iff.1 e
      · cases e
    subst h0
    refine (Go.Proofs.AnyE.slices_Reverse_empty laysB none 0 w).mono ?_
    rintro e w' ⟨rfl, rfl⟩
    exact ⟨rfl, h, ⟨rfl, rfl, rfl, Nat.le_refl _, fun _ _ _ => rfl⟩⟩
  · obtain ⟨g, cap, rfl, hb, hlt, hn, hm, hz, hH⟩ := Lib.holds_of_ownsRow h hv
    refine (Go.Proofs.AnyE.slices_Reverse laysB (Value.int .u8) one_u8 g 0 cap s w hH hl).mono ?_
    rintro e w' ⟨rfl, n, rfl⟩
    have := Lib.ownsRow_putRow (q := n) (k := s.length) (ys := s.reverse) h (by simp) (Nat.le_refl _)
    rw [List.take_of_length_le (by simp)] at this
    exact ⟨rfl, this, grown_putRow _ _ _ _ _⟩

theorem flat_at (ps : List Pc) (t : Nat) (ht : t < ps.length * 5) : (Sort.flatK Pc.cells 5 ps.toArray)[t]! = (cellsL ps)[t]! := by
  rw [Sort.get_flatK _ _ _ t (by simpa using ht)]
  have hd : t / 5 < ps.length := by omega
  have h1 := pcs_at ps (t / 5) ps[t / 5] (List.getElem?_eq_getElem hd) (t % 5) (Nat.mod_lt _ (by decide))
  rw [show t / 5 * 5 + t % 5 = t by omega] at h1
  have h2 : (ps.toArray)[t / 5]! = ps[t / 5] := by simp [getElem!_pos, hd]
  rw [h2]
  simp only [List.getElem!_eq_getElem?_getD, h1]
theorem flat_all (ps : List Pc) : (Sort.flatK Pc.cells 5 ps.toArray) = (cellsL ps).toArray := by
  refine Sort.ext_get! (by rw [Sort.size_flatK]; simp [cellsL_len]) fun t ht => ?_
  rw [Sort.size_flatK] at ht
  rw [flat_at ps t (by simpa using ht)]
  have hlt : t < (cellsL ps).length := by rw [cellsL_len]; simpa using ht
  simp [getElem!_pos, hlt]
theorem holdsP {w : World} {B g cap n : Nat} {ps : List Pc} (h : w.ownsRow B 66 5 (.slice (some ⟨g, 0, none⟩) n cap) n (cellsL ps)) : Sort.HoldsK Pc.cells 5 w g 0 ps.toArray := by
  unfold Sort.HoldsK
  rw [flat_all]
  intro j hj
  have hj' : j < (cellsL ps).length := by simpa using hj
  have := h.cells (g := g) rfl j (cellsL ps)[j] (List.getElem?_eq_getElem hj')
  rw [Nat.zero_add]
  refine ⟨?_, h.frozenAt j⟩
  rw [WideShapes.add_plain, Nat.zero_add] at this
  rw [this]
  simp [getElem!_pos, hj']
theorem own_putP {w : World} {B g cap n q : Nat} {ps qs : List Pc} (h : w.ownsRow B 66 5 (.slice (some ⟨g, 0, none⟩) n cap) n (cellsL ps)) (hl : qs.length = n) :
    (Sort.putRowK Pc.cells 5 (Sort.ahead w q) g 0 qs.toArray).ownsRow B 66 5 (.slice (some ⟨g, 0, none⟩) n cap) n (cellsL qs) := by
  unfold Sort.putRowK
  rw [flat_all]
  rcases h.2 with ⟨e0, _⟩ | ⟨g', cap', cur, e0, hb, hg, hn, hm, hs, ht⟩
  · cases e0
  · injection e0 with e1 _ e3
    injection e1 with e1
    injection e1 with e1
    subst e1; subst e3
    refine ⟨by rw [cellsL_len, hl], .inr ⟨g, cap, Sort.putCells id 0 (cellsL qs).toArray cur, rfl, hb, ?_, hn, hm, by simpa [Sort.putCells] using hs, ?_⟩⟩
    · simp [Sort.putRow, Sort.mapBlock, Sort.ahead, Array.getElem?_modify, hg, Sort.onCells]
    · have hcl := cellsL_len qs
      apply List.ext_getElem?
      intro j
      rw [List.getElem?_take, Array.getElem?_toList]
      by_cases hj : j < n * 5
      · have hjc : j < cur.size := by rw [hs]; omega
        have hjq : j < (cellsL qs).length := by omega
        rw [if_pos hj]
        simp only [Sort.putCells, Array.getElem?_mapIdx, Array.getElem?_eq_getElem hjc, Option.map_some]
        rw [if_pos (by simp; omega), List.getElem?_eq_getElem hjq]
        simp [getElem!_pos, hjq]
      · rw [if_neg hj, List.getElem?_eq_none (by omega)]
theorem agg_piece : ∀ w : World, (isAgg 66).run Tryd.prog w = .ok true w := fun _ => by kernel_rfl
theorem size_piece : ∀ w : World, (Go.sizeOf 66).run Tryd.prog w = .ok 5 w := fun _ => by kernel_rfl
/-- The pieces of a row of one's own, turned. -/
theorem revP_any (B : Nat) (v : Value) (ps : List Pc) (w : World) (h : w.ownsRow B 66 5 v ps.length (cellsL ps)) (hl : ps.length ≤ 1048576) :
    Calls Tryd.prog 41 #[v] w fun e w' => e = .returned (.tuple #[]) ∧ w'.ownsRow B 66 5 v ps.length (cellsL ps.reverse) ∧ w.grownBy w' v.ownBlock := by
  obtain ⟨a, cap, hv⟩ := own_shp h
  subst hv
  rcases h.2 with ⟨e, h0⟩ | ⟨g, cap', cur, e, _⟩
  · have hp : ps = [] := List.length_eq_zero_iff.1 h0
    subst hp
    refine (Go.Proofs.AnyQ.slices_Reverse_empty laysQ a cap w).mono ?_
    rintro e w' ⟨rfl, rfl⟩
    exact ⟨rfl, h, ⟨rfl, rfl, rfl, Nat.le_refl _, fun _ _ _ => rfl⟩⟩
  · simp only [Value.slice.injEq] at e
    obtain ⟨rfl, _, rfl⟩ := e
    have hQ := Go.Proofs.AnyQ.slices_Reverse laysQ 5 agg_piece size_piece Pc.cells (fun _ => rfl) (fun x y hy => one5 _ _ _ _ _ y hy) g 0 cap ps.toArray w (holdsP h) (by simp; omega)
    rw [List.size_toArray] at hQ
    refine hQ.mono ?_
    rintro e w' ⟨rfl, n, rfl⟩
    rw [List.reverse_toArray]
    exact ⟨rfl, own_putP h (by simp), grown_putRow _ _ _ _ _⟩

/-- A copy of bytes. -/
theorem cloneB_any (v : Value) (s : List Int) (w : World) (h : Sl w v s) (hl : s.length ≤ 140737488355328) :
    Calls Tryd.prog 40 #[v] w fun e w' => ∃ v', e = .returned v' ∧ w'.ownsRow w.heap.size 5 1 v' s.length (s.map (Value.int .u8)) ∧ Below w.heap.size w w' := by
  rcases h.2.2 with ⟨rfl, a, cap, rfl⟩ | ⟨b, o, cap, rfl, hlc, hcm, hrow⟩
  · cases a with
    | none =>
      refine (Tryd.bytes_Clone_nil 0 cap w).mono ?_
      rintro e w' ⟨rfl, rfl⟩
      exact ⟨_, rfl, World.ownsRow_nil _ _ _ _, Below.refl _ _⟩
    | some a =>
      refine (Tryd.bytes_Clone_at a 0 cap [] w rfl (by decide) (fun i hi => absurd hi (by omega))).mono ?_
      rintro e w' ⟨v', rfl, h1, _, h2⟩
      exact ⟨v', rfl, h1, h2⟩
  · refine (Tryd.bytes_Clone_at ⟨b, o, none⟩ s.length cap s w rfl hl (fun i hi => by rw [WideShapes.add_plain]; exact hrow i hi)).mono ?_
    rintro e w' ⟨v', rfl, h1, _, h2⟩
    exact ⟨v', rfl, h1, h2⟩
end Go.Proofs.YtopnckfmdjhbjaaDoor
/- Contracts of Match, Prefix, Suffix, Steps. -/
namespace Go.Proofs.YtopnckfmdjhbjaaDoor
open Go.RowKit

set_option maxRecDepth 100000 in
set_option maxHeartbeats 4000000 in
theorem isMatch_any (s : List Int) (ps : List Pc) (sv v : Value) (B : Nat) (w : World) (hT : TZ w) (hs : Sl w sv s) (hlen : s.length ≤ 1099511627776) (hrow : w.ownsRow B 66 5 v ps.length (cellsL ps)) (hl : ps.length ≤ 1048576) :
    Calls Tryd.prog 36 #[v, sv] w fun e w' => e = .returned (.bool (mtc ps s)) ∧ Below w.heap.size w w' := by
  have HE := Lib.hid (ends_any s ps sv v B w hT hs hlen hrow hl)
  obtain ⟨sa, sc, hsv⟩ : ∃ a c, sv = .slice a s.length c := by
    rcases hs.2.2 with ⟨rfl, a, cap, rfl⟩ | ⟨x, o, cap, rfl, _⟩
    · exact ⟨a, cap, rfl⟩
    · exact ⟨_, cap, rfl⟩
  subst hsv
  have HH : Hid (∀ (b : Nat) (X : World), PL X b (s.length / 64 + 1) (epl ps s) → Calls Tryd.prog 68 #[.slice (some ⟨b, 0, none⟩) (s.length / 64 + 1) (s.length / 64 + 1), .int .i64 (s.length : Nat)] X fun e w' => e = .returned (.bool (mtc ps s)) ∧ w' = X) := Lib.hid fun b X h => hasP_any b (s.length / 64 + 1) s.length (epl ps s) X h (by omega) (by omega)
  generalize mtc ps s = r at *
  clear hT hs hrow
  obtain ⟨n, hn⟩ : ∃ n, n = s.length / 64 + 1 := ⟨_, rfl⟩
  rw [← hn] at HE HH
  clear hn
  obtain ⟨len, hle⟩ : ∃ l, l = s.length := ⟨_, rfl⟩
  rw [← hle] at HE HH hlen ⊢
  clear hle
  go_enter Tryd.func36, Tryd.ntmps36
  go_wp2_with fail
  refine HE.out.mono ?_
  rintro e w1 ⟨b, rfl, hp1, hb1⟩
  have HB1 := Lib.hid hb1
  have HHH := Lib.hid (HH.out b w1 hp1)
  clear hb1 hp1
  go_wp2_with fail
  refine HHH.out.mono ?_
  rintro e w2 ⟨rfl, rfl⟩
  go_wp2
  go_ret
  exact ⟨rfl, HB1.out⟩

set_option maxRecDepth 100000 in
set_option maxHeartbeats 4000000 in
theorem match_nil (sv : Value) (w : World) :
    Calls Tryd.prog 15 #[.pointer none, sv] w fun e w' => e = .returned (.bool false) ∧ w' = w := by
  go_enter Tryd.func15, Tryd.ntmps15
  go_wp2
  go_ret
  exact ⟨rfl, rfl⟩
set_option maxRecDepth 100000 in
set_option maxHeartbeats 4000000 in
theorem match_any (s : List Int) (ps : List Pc) (sv : Value) (B b : Nat) (w : World) (hT : TZ w) (hs : Sl w sv s) (hlen : s.length ≤ 1099511627776) (hp : PatAt B b ps w) (hl : ps.length ≤ 1048576) :
    Calls Tryd.prog 15 #[.pointer (some ⟨b, 0, none⟩), sv] w fun e w' => e = .returned (.bool (mtc ps s)) ∧ Below w.heap.size w w' := by
  have HP := Lib.hid (pieces_own B b ps w hp hl)
  have HI := Lib.hid (fun (v : Value) (X : World) (hb : Below w.heap.size w X) (hr : X.ownsRow w.heap.size 66 5 v ps.length (cellsL ps)) => isMatch_any s ps sv v w.heap.size X (hT.below hb) (hs.below hb) hlen hr hl)
  clear hT hs hp
  generalize mtc ps s = r at *
  go_enter Tryd.func15, Tryd.ntmps15
  go_wp2_with fail
  refine HP.out.mono ?_
  rintro e w1 ⟨v, rfl, hr1, hb1⟩
  have HB1 := Lib.hid hb1
  have HII := Lib.hid (HI.out v w1 hb1 hr1)
  clear hb1 hr1
  go_wp2_with fail
  refine HII.out.mono ?_
  rintro e w2 ⟨rfl, hb2⟩
  have HB2 := Lib.hid (below_thn HB1.out (Nat.le_refl _) hb2)
  clear hb2
  go_wp2
  go_ret
  exact ⟨rfl, HB2.out⟩

theorem pfx_out (g : Bool) (ps : List Pc) (s : List Int) : outP g (epl ps s) (64 * (s.length / 64 + 1)) = pfx g ps s :=
  outP_fits g (fun k hk => by have := epl_fits ps s k hk; omega) (by omega)
set_option maxRecDepth 100000 in
set_option maxHeartbeats 4000000 in
theorem prefix_any (g : Bool) (s : List Int) (ps : List Pc) (sv : Value) (B b : Nat) (w : World) (hT : TZ w) (hs : Sl w sv s) (hlen : s.length ≤ 1099511627776) (hp : PatAt B b ps w) (hl : ps.length ≤ 1048576) :
    Calls Tryd.prog 17 #[.pointer (some ⟨b, 0, none⟩), sv, .bool g] w fun e w' => e = .returned (.tuple #[.int .i64 ((pfx g ps s).1 : Nat), .bool (pfx g ps s).2]) ∧ Below w.heap.size w w' := by
  have HP := Lib.hid (pieces_own B b ps w hp hl)
  have HI := Lib.hid (fun (v : Value) (X : World) (hb : Below w.heap.size w X) (hr : X.ownsRow w.heap.size 66 5 v ps.length (cellsL ps)) => ends_any s ps sv v w.heap.size X (hT.below hb) (hs.below hb) hlen hr hl)
  have HO := Lib.hid (fun (c : Nat) (X : World) (hb : Below w.heap.size w X) (h : PL X c (s.length / 64 + 1) (epl ps s)) => by
    have := outermost_any g c (s.length / 64 + 1) (epl ps s) X (hT.below hb) h (by omega)
    rwa [pfx_out] at this)
  clear hT hs hp
  generalize pfx g ps s = r at *
  obtain ⟨n, hn⟩ : ∃ n, n = s.length / 64 + 1 := ⟨_, rfl⟩
  rw [← hn] at HI HO
  clear hn
  go_enter Tryd.func17, Tryd.ntmps17
  go_wp2_with fail
  refine HP.out.mono ?_
  rintro e w1 ⟨v, rfl, hr1, hb1⟩
  have HB1 := Lib.hid hb1
  have HII := Lib.hid (HI.out v w1 hb1 hr1)
  clear hb1 hr1
  go_wp2_with fail
  refine HII.out.mono ?_
  rintro e w2 ⟨c, rfl, hp2, hb2⟩
  have HB2 := Lib.hid (below_thn HB1.out (Nat.le_refl _) hb2)
  have HOO := Lib.hid (HO.out c w2 HB2.out hp2)
  clear hb2 hp2
  go_wp2_with fail
  refine HOO.out.mono ?_
  rintro e w3 ⟨rfl, rfl⟩
  go_wp2
  go_ret2
  exact ⟨rfl, HB2.out⟩

theorem outP_le {g : Bool} {P : Nat → Bool} {m : Nat} (h : (outP g P (m + 1)).2 = true) : (outP g P (m + 1)).1 ≤ m := by
  unfold outP at h ⊢
  cases g
  · rw [if_neg (by decide)] at h ⊢
    rcases lea_cases P (m + 1) with ⟨k, h1, _, _, h4⟩ | ⟨_, h4⟩
    · rw [h4]; show k ≤ m; omega
    · rw [h4] at h; cases h
  · rw [if_pos rfl] at h ⊢
    rcases gre_cases P (m + 1) with ⟨k, h1, _, _, h4⟩ | ⟨_, h4⟩
    · rw [h4]; show k ≤ m; omega
    · rw [h4] at h; cases h
set_option maxRecDepth 100000 in
set_option maxHeartbeats 8000000 in
theorem suffix_any (g : Bool) (s : List Int) (ps : List Pc) (sv : Value) (B b : Nat) (w : World) (hT : TZ w) (hs : Sl w sv s) (hlen : s.length ≤ 1099511627776) (hp : PatAt B b ps w) (hl : ps.length ≤ 1048576) :
    Calls Tryd.prog 19 #[.pointer (some ⟨b, 0, none⟩), sv, .bool g] w fun e w' => e = .returned (.tuple #[.int .i64 ((sfx g ps s).1 : Nat), .bool (sfx g ps s).2]) ∧ Below w.heap.size w w' := by
  have HP := Lib.hid (pieces_own B b ps w hp hl)
  have HC := Lib.hid (fun (X : World) (hb : Below w.heap.size w X) => cloneB_any sv s X (hs.below hb) (by omega))
  have HRP := Lib.hid (fun (v : Value) (X : World) (h : X.ownsRow w.heap.size 66 5 v ps.length (cellsL ps)) => revP_any w.heap.size v ps X h hl)
  have HRB := Lib.hid (fun (v : Value) (C : Nat) (X : World) (h : X.ownsRow C 5 1 v s.length (s.map (Value.int .u8))) => revB_any C v s X h (by omega))
  have HI := Lib.hid (fun (v tv : Value) (X : World) (hb : Below w.heap.size w X) (hsl : Sl X tv s.reverse) (hr : X.ownsRow w.heap.size 66 5 v ps.reverse.length (cellsL ps.reverse)) => ends_any s.reverse ps.reverse tv v w.heap.size X (hT.below hb) hsl (by rw [List.length_reverse]; exact hlen) hr (by rw [List.length_reverse]; exact hl))
  have HO := Lib.hid (fun (c : Nat) (X : World) (hb : Below w.heap.size w X) (h : PL X c (s.length / 64 + 1) (epl ps.reverse s.reverse)) => by
    have := outermost_any g c (s.length / 64 + 1) (epl ps.reverse s.reverse) X (hT.below hb) h (by omega)
    rwa [outP_fits g (m := s.length + 1) (fun k hk => by have := epl_fits ps.reverse s.reverse k hk; rw [List.length_reverse] at this; omega) (by omega)] at this)
  have HBY := Lib.hid hs.1
  have HSF : Hid (sfx g ps s = if (outP g (epl ps.reverse s.reverse) (s.length + 1)).2 = true then (s.length - (outP g (epl ps.reverse s.reverse) (s.length + 1)).1, true) else (0, false)) := Lib.hid rfl
  have hole := fun h => outP_le (g := g) (P := epl ps.reverse s.reverse) (m := s.length) h
  obtain ⟨sa, sc, hsv⟩ : ∃ a c, sv = .slice a s.length c := by
    rcases hs.2.2 with ⟨rfl, a, cap, rfl⟩ | ⟨x, o, cap, rfl, _⟩
    · exact ⟨a, cap, rfl⟩
    · exact ⟨_, cap, rfl⟩
  subst hsv
  clear hT hs hp
  generalize outP g (epl ps.reverse s.reverse) (s.length + 1) = r at *
  generalize sfx g ps s = r' at *
  obtain ⟨q, ok⟩ := r
  obtain ⟨n, hn⟩ : ∃ n, n = s.length / 64 + 1 := ⟨_, rfl⟩
  rw [← hn] at HO
  simp only [List.length_reverse] at HI
  rw [← hn] at HI
  clear hn
  have HSL : Hid (∀ (X : World) (v : Value) (C : Nat), X.ownsRow C 5 1 v s.length (s.reverse.map (Value.int .u8)) → Sl X v s.reverse) := Lib.hid fun X v C h => slOwnedM h (byt_of fun c hc => byt_mem HBY.out (List.mem_reverse.1 hc)) (by rw [List.length_reverse]; omega)
  obtain ⟨len, hle⟩ : ∃ l, l = s.length := ⟨_, rfl⟩
  have HLE := Lib.hid hle
  rw [← hle] at hlen hole HSF ⊢
  clear hle
  go_enter Tryd.func19, Tryd.ntmps19
  go_wp2_with fail
  refine HP.out.mono ?_
  rintro e w1 ⟨v, rfl, hr1, hb1⟩
  have HB1 := Lib.hid hb1
  have HR1 := Lib.hid hr1
  have HCC := Lib.hid (HC.out w1 hb1)
  clear hb1 hr1
  rw [← HLE.out] at HCC
  go_wp2_with fail
  refine HCC.out.mono ?_
  rintro e w2 ⟨tv, rfl, hr2, hb2⟩
  have HB2 := Lib.hid (below_thn HB1.out (Nat.le_refl _) hb2)
  have HT2 := Lib.hid hr2
  have HR2 := Lib.hid (own_drop HR1.out hb2)
  have HRR := Lib.hid (HRP.out v w2 HR2.out)
  clear hb2 hr2
  go_wp2_with fail
  refine HRR.out.mono ?_
  rintro e w3 ⟨rfl, hr3, hg3⟩
  have HR3 := Lib.hid hr3
  have HT3 := Lib.hid (own_other HT2.out HR2.out (by decide) hg3)
  have HB3 : Hid (Below w.heap.size w w3) := Lib.hid (HB2.out.grown hg3 HB2.out.size (fun k hk => (HR2.out.lt k hk).1))
  have HBB := HRB.out tv w1.heap.size w3 (by rw [← HLE.out]; exact HT3.out)
  rw [← HLE.out] at HBB
  have HBBH := Lib.hid HBB
  clear hr3 hg3 HBB
  go_wp2_with fail
  refine HBBH.out.mono ?_
  rintro e w4 ⟨rfl, hr4, hg4⟩
  have HR4 := Lib.hid (own_other HR3.out HT3.out (by decide) hg4)
  have HS4 := Lib.hid (HSL.out w4 tv _ (by rw [← HLE.out]; exact hr4))
  have HB4 : Hid (Below w.heap.size w w4) := Lib.hid (HB3.out.grown hg4 HB3.out.size (fun k hk => by have := (HT3.out.lt k hk).1; have := HB1.out.size; omega))
  have HII := Lib.hid (HI.out v tv w4 HB4.out HS4.out HR4.out)
  clear hr4 hg4
  go_wp2_with fail
  refine HII.out.mono ?_
  rintro e w5 ⟨c, rfl, hp5, hb5⟩
  have HB5 := Lib.hid (below_thn HB4.out (Nat.le_refl _) hb5)
  have HOO := Lib.hid (HO.out c w5 HB5.out hp5)
  clear hb5 hp5
  go_wp2_with fail
  refine HOO.out.mono ?_
  rintro e w6 ⟨rfl, rfl⟩
  cases ok with
  | true =>
    have hq : q ≤ len := hole rfl
    have hqI : (len : Int) - (q : Int) = ((len - q : Nat) : Int) := by omega
    clear hole
    have HF : Hid (r' = (len - q, true)) := Lib.hid HSF.out
    generalize len - q = d at *
    go_wp2
    go_ret2
    exact ⟨by rw [HF.out]; rfl, HB5.out⟩
  | false =>
    clear hole
    have HF : Hid (r' = (0, false)) := Lib.hid HSF.out
    go_wp2
    go_ret2
    exact ⟨by rw [HF.out]; rfl, HB5.out⟩

end Go.Proofs.YtopnckfmdjhbjaaDoor
namespace Go.Proofs.YtopnckfmdjhbjaaDoor
open Go.RowKit

set_option maxRecDepth 100000 in
set_option maxHeartbeats 4000000 in
theorem few_short (a : Option Addr) (n c : Nat) (h : n ≤ 60) (w : World) :
    Calls Tryd.prog 12 #[.slice a n c] w fun e w' => e = .returned (.slice a n c) ∧ w' = w := by
  have hI : ¬ (60 : Int) < (n : Int) := by omega
  clear h
  go_enter Tryd.func12, Tryd.ntmps12
  go_wp2
  go_ret
  exact ⟨rfl, rfl⟩
set_option maxRecDepth 100000 in
set_option maxHeartbeats 4000000 in
theorem few_long (b o n c : Nat) (h : 60 < n) (hnc : n ≤ c) (w : World) :
    Calls Tryd.prog 12 #[.slice (some ⟨b, o, none⟩) n c] w fun e w' => e = .returned (.slice (some ⟨b, o, none⟩) 60 c) ∧ w' = w := by
  have hI : (60 : Int) < (n : Int) := by omega
  have hc : 60 ≤ c := by omega
  go_enter Tryd.func12, Tryd.ntmps12
  go_wp2
  go_ret
  exact ⟨rfl, rfl⟩
/-- What few leaves of a slice: its first bytes, at most sixty. -/
theorem few_sl {v : Value} {s : List Int} {w : World} (h : Sl w v s) : ∃ v', Sl w v' (s.take 60) ∧ (∀ X, Calls Tryd.prog 12 #[v] X fun e w' => e = .returned v' ∧ w' = X) ∧ (∀ n cap, v' = .slice none n cap → v = .slice none n cap) := by
  rcases h.2.2 with ⟨rfl, a, cap, rfl⟩ | ⟨b, o, cap, rfl, hlc, hcm, hrow⟩
  · exact ⟨_, h, fun X => few_short a 0 cap (by decide) X, fun n cap h => h⟩
  · by_cases h60 : s.length ≤ 60
    · rw [List.take_of_length_le h60]
      exact ⟨_, h, fun X => few_short _ s.length cap h60 X, fun n cap h => h⟩
    · refine ⟨.slice (some ⟨b, o, none⟩) 60 cap, ?_, fun X => few_long b o s.length cap (by omega) hlc X, fun n cap h => by cases h⟩
      have hl : (s.take 60).length = 60 := by simp; omega
      refine ⟨fun i => ?_, by omega, Or.inr ⟨b, o, cap, by rw [hl], by omega, hcm, fun i hi => ?_⟩⟩
      · by_cases hi : i < 60
        · have := h.1 i
          rwa [show (s.take 60).getD i 0 = s.getD i 0 by simp [List.getD, hi]]
        · rw [List.getD, List.getElem?_eq_none (by omega)]; simp
      · rw [hl] at hi
        rw [show (s.take 60).getD i 0 = s.getD i 0 by simp [List.getD, hi]]
        exact hrow i (by omega)

set_option maxRecDepth 100000 in
set_option maxHeartbeats 4000000 in
theorem read_ok (cf : ByteArray → (Nat → Bool) × Bool) (hcf : ClassOk cf) (e : Nat → Addr) (v : Value) (l : List Int) (w : World) (he : Es w w.heap.size e) (hT : TZ w) (hs : Sl w v l) (hl : l.length ≤ 256) :
    Calls Tryd.prog 13 #[v] w fun x w' => ∃ b, x = .returned (.pointer (some ⟨b, 0, none⟩)) ∧ PatAt w.heap.size b (glP cf l) w' ∧ Below w.heap.size w w' := by
  have HP := Lib.hid (parse_ok cf hcf e v l w he hT hs hl)
  clear he hT hs
  go_enter Tryd.func13, Tryd.ntmps13
  go_wp2_with fail
  refine HP.out.mono ?_
  rintro x w1 ⟨b, rfl, hp1, hb1⟩
  have HP1 := Lib.hid hp1
  have HB1 := Lib.hid hb1
  clear hp1 hb1
  go_wp2
  go_ret
  exact ⟨b, rfl, HP1.out, HB1.out⟩
set_option maxRecDepth 100000 in
set_option maxHeartbeats 4000000 in
theorem read_long (e : Nat → Addr) (a : Option Addr) (n cap : Nat) (hn : 256 < n) (w : World) (he : Es w w.heap.size e) :
    Calls Tryd.prog 13 #[.slice a n cap] w fun x w' => x = .returned (.pointer none) ∧ Below w.heap.size w w' := by
  have HP := Lib.hid (parse_long e a n cap hn w he)
  clear he
  go_enter Tryd.func13, Tryd.ntmps13
  go_wp2_with fail
  refine HP.out.mono ?_
  rintro x w1 ⟨v, rfl, her, hb1⟩
  obtain ⟨kk, rfl⟩ := her.iface
  have HB1 := Lib.hid hb1
  clear her hb1
  go_wp2
  go_ret
  exact ⟨rfl, HB1.out⟩

theorem aw7a (cf : ByteArray → (Nat → Bool) × Bool) : glP cf [97, 42, 98] = [.byt (mem [97]), .many, .byt (mem [98])] := by kernel_rfl
theorem aw7b (cf : ByteArray → (Nat → Bool) × Bool) : glP cf [97, 63] = [.byt (mem [97]), .one] := by kernel_rfl
theorem aw7c : mtc [.byt (mem [97]), .many, .byt (mem [98])] [97, 88, 98] = true := by kernel_rfl
theorem aw7d : mtc [.byt (mem [97]), .one] [97] = false := by kernel_rfl
theorem sl_lit (w : World) (l : List Int) (c : Nat) (z : Nat × Nat) (hl : ∀ x ∈ l, 0 ≤ x ∧ x ≤ 255) (hc : l.length ≤ c) (hcm : c ≤ 9223372036854775807) : Sl (w.alloc (.cells (l.map (Value.int .u8)).toArray 5 z)) (.slice (some ⟨w.heap.size, 0, none⟩) l.length c) l := by
  refine ⟨byt_of hl, by omega, Or.inr ⟨w.heap.size, 0, c, rfl, hc, hcm, fun i hi => ?_⟩⟩
  have hb := alloc_last w (.cells (l.map (Value.int .u8)).toArray 5 z)
  rw [Nat.zero_add]
  simp only [World.cell?, hb, List.getElem?_toArray, List.getElem?_map, List.getElem?_eq_getElem hi, List.getD]
  rfl

set_option maxRecDepth 100000 in
set_option maxHeartbeats 8000000 in
theorem awake7_any (cf : ByteArray → (Nat → Bool) × Bool) (hcf : ClassOk cf) (e : Nat → Addr) (w : World) (he : Es w w.heap.size e) (hT : TZ w) :
    Calls Tryd.prog 16 #[] w fun x w' => x = .returned (.bool true) ∧ Below w.heap.size w w' := by
  have hes : ∀ X, Below w.heap.size w X → Es X X.heap.size e := fun X hX => ⟨(he.below hX).var, Nat.lt_of_lt_of_le he.low hX.size, Nat.le_refl _⟩
  have kc := fun (w : World) (C : Array Value) (n c : Nat) => Lib.run_convert_bytes_const (P := Tryd.prog) w 22 5 C n c Tryd.underlying22 Tryd.underlying5
  have HA : Hid (∀ (X : World) (z : Nat × Nat), Below w.heap.size w (X.alloc (.cells #[.int .u8 97, .int .u8 42, .int .u8 98] 5 z)) → Calls Tryd.prog 13 #[.slice (some ⟨X.heap.size, 0, none⟩) 3 3] (X.alloc (.cells #[.int .u8 97, .int .u8 42, .int .u8 98] 5 z)) fun x w' => ∃ b, x = .returned (.pointer (some ⟨b, 0, none⟩)) ∧ PatAt (X.heap.size + 1) b [.byt (mem [97]), .many, .byt (mem [98])] w' ∧ Below (X.heap.size + 1) (X.alloc (.cells #[.int .u8 97, .int .u8 42, .int .u8 98] 5 z)) w') := Lib.hid fun X z hX => by
    have h := read_ok cf hcf e _ [97, 42, 98] _ (hes _ hX) (hT.below hX) (sl_lit X [97, 42, 98] 3 z (by simp) (by decide) (by decide)) (by decide)
    rw [aw7a] at h
    simp only [World.size_alloc] at h
    exact h
  have HB : Hid (∀ (X : World) (z : Nat × Nat), Below w.heap.size w (X.alloc (.cells #[.int .u8 97, .int .u8 63] 5 z)) → Calls Tryd.prog 13 #[.slice (some ⟨X.heap.size, 0, none⟩) 2 2] (X.alloc (.cells #[.int .u8 97, .int .u8 63] 5 z)) fun x w' => ∃ b, x = .returned (.pointer (some ⟨b, 0, none⟩)) ∧ PatAt (X.heap.size + 1) b [.byt (mem [97]), .one] w' ∧ Below (X.heap.size + 1) (X.alloc (.cells #[.int .u8 97, .int .u8 63] 5 z)) w') := Lib.hid fun X z hX => by
    have h := read_ok cf hcf e _ [97, 63] _ (hes _ hX) (hT.below hX) (sl_lit X [97, 63] 2 z (by simp) (by decide) (by decide)) (by decide)
    rw [aw7b] at h
    simp only [World.size_alloc] at h
    exact h
  have HMA : Hid (∀ (X : World) (z : Nat × Nat) (B b : Nat), Below w.heap.size w (X.alloc (.cells #[.int .u8 97, .int .u8 88, .int .u8 98] 5 z)) → PatAt B b [.byt (mem [97]), .many, .byt (mem [98])] (X.alloc (.cells #[.int .u8 97, .int .u8 88, .int .u8 98] 5 z)) → Calls Tryd.prog 15 #[.pointer (some ⟨b, 0, none⟩), .slice (some ⟨X.heap.size, 0, none⟩) 3 3] (X.alloc (.cells #[.int .u8 97, .int .u8 88, .int .u8 98] 5 z)) fun x w' => x = .returned (.bool true) ∧ Below (X.heap.size + 1) (X.alloc (.cells #[.int .u8 97, .int .u8 88, .int .u8 98] 5 z)) w') := Lib.hid fun X z B b hX hp => by
    have h := match_any [97, 88, 98] _ _ B b _ (hT.below hX) (sl_lit X [97, 88, 98] 3 z (by simp) (by decide) (by decide)) (by decide) hp (by decide)
    rw [aw7c] at h
    simp only [World.size_alloc] at h
    exact h
  have HMB : Hid (∀ (X : World) (z : Nat × Nat) (B b : Nat), Below w.heap.size w (X.alloc (.cells #[.int .u8 97] 5 z)) → PatAt B b [.byt (mem [97]), .one] (X.alloc (.cells #[.int .u8 97] 5 z)) → Calls Tryd.prog 15 #[.pointer (some ⟨b, 0, none⟩), .slice (some ⟨X.heap.size, 0, none⟩) 1 1] (X.alloc (.cells #[.int .u8 97] 5 z)) fun x w' => x = .returned (.bool false) ∧ Below (X.heap.size + 1) (X.alloc (.cells #[.int .u8 97] 5 z)) w') := Lib.hid fun X z B b hX hp => by
    have h := match_any [97] _ _ B b _ (hT.below hX) (sl_lit X [97] 1 z (by simp) (by decide) (by decide)) (by decide) hp (by decide)
    rw [aw7d] at h
    simp only [World.size_alloc] at h
    exact h
  clear he hT hcf hes
  go_enter Tryd.func16, Tryd.ntmps16
  go_wp2_with fail
  refine (HA.out _ _ ((Below.refl _ _).alloc (Nat.le_refl _) _)).mono ?_
  rintro x w1 ⟨b, rfl, hp1, hb1⟩
  have HP1 := Lib.hid hp1
  have HB1 := Lib.hid (((Below.refl w.heap.size w).alloc (Nat.le_refl _) _).trans (hb1.mono (Nat.le_succ _)))
  clear hp1 hb1
  go_wp2_with fail
  refine (HMA.out _ _ _ b (HB1.out.alloc HB1.out.size _) (HP1.out.next ((Below.refl _ _).alloc (Nat.le_refl _) _))).mono ?_
  rintro x w2 ⟨rfl, hb2⟩
  have HB2 : Hid (Below w.heap.size w w2) := Lib.hid ((HB1.out.alloc HB1.out.size _).trans (hb2.mono (by have := HB1.out.size; omega)))
  clear hb2
  go_wp2_with fail
  refine (HB.out _ _ (HB2.out.alloc HB2.out.size _)).mono ?_
  rintro x w3 ⟨b3, rfl, hp3, hb3⟩
  have HP3 := Lib.hid hp3
  have HB3 : Hid (Below w.heap.size w w3) := Lib.hid ((HB2.out.alloc HB2.out.size _).trans (hb3.mono (by have := HB2.out.size; omega)))
  clear hp3 hb3
  go_wp2_with fail
  refine (HMB.out _ _ _ b3 (HB3.out.alloc HB3.out.size _) (HP3.out.next ((Below.refl _ _).alloc (Nat.le_refl _) _))).mono ?_
  rintro x w4 ⟨rfl, hb4⟩
  have HB4 : Hid (Below w.heap.size w w4) := Lib.hid ((HB3.out.alloc HB3.out.size _).trans (hb4.mono (by have := HB3.out.size; omega)))
  clear hb4
  go_wp2
  go_ret
  exact ⟨rfl, HB4.out⟩
end Go.Proofs.YtopnckfmdjhbjaaDoor
