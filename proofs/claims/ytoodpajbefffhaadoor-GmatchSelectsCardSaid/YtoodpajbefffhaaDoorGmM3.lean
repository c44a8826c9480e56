/- Contracts of the law's few, read, awake. -/
import Derived.Test.YtoodpajbefffhaaDoorGlPar
import Derived.Lib.SliceRun
import Derived.Test.YtoodpajbefffhaaDoorGmM2
import Derived.BigQuiet
import Derived.Deep.QuietTactic
import Derived.Test.YtoodpajbefffhaaDoorShelf
import Derived.Shelf.SlicesQ.Reverse
import Derived.Shelf.SlicesE.Reverse
import Derived.Lib.OwnBridge
import Derived.Test.YtoodpajbefffhaaDoorSeMor
import Derived.Lib.SlBytesConst
/- The contract of Pieces; a piece of a row, cell by cell. -/
namespace Go.Proofs.YtoodpajbefffhaaDoor
open Go.RowKit

theorem pcs_at : ∀ (ps : List Pc) (k : Nat) (x : Pc), ps[k]? = some x → ∀ i, i < 5 → (cellsL ps)[k * 5 + i]? = x.cells[i]?
  | [], k, x, h, _, _ => by simp at h
  | y :: r, 0, x, h, i, hi => by
    simp only [List.getElem?_cons_zero, Option.some.injEq] at h
    subst h
    rw [Nat.zero_mul, Nat.zero_add]
    show (y.cells ++ cellsL r)[i]? = _
    rw [List.getElem?_append_left (by exact hi)]
  | y :: r, k + 1, x, h, i, hi => by
    have ih := pcs_at r k x (by simpa using h) i hi
    show (y.cells ++ cellsL r)[(k + 1) * 5 + i]? = _
    rw [List.getElem?_append_right (by show 5 ≤ _; omega), ← ih]
    congr 1
    show (k + 1) * 5 + i - 5 = _
    omega
/-- The cells of a piece in its row. -/
theorem piece_at {X : World} {B g n capv : Nat} {ps : List Pc} (h : X.ownsRow B 41 5 (.slice (some ⟨g, 0, none⟩) n capv) n (cellsL ps)) {k : Nat} {x : Pc} (hk : ps[k]? = some x) (i : Nat) (hi : i < 5) (y : Value) (hy : x.cells[i]? = some y) : X.cell? ⟨g, k * 5 + i, none⟩ = some y := by
  have := h.cells (g := g) rfl (k * 5 + i) y (by rw [pcs_at ps k x hk i hi, hy])
  rw [WideShapes.add_plain, Nat.zero_add] at this
  exact this

theorem own_shp {w : World} {B : Nat} {e : TypeId} {s : Nat} {v : Value} {n : Nat} {xs : List Value} (h : w.ownsRow B e s v n xs) : ∃ a0 cap, v = .slice a0 n cap := own_shapeK h

set_option maxRecDepth 100000 in
set_option maxHeartbeats 8000000 in
/-- A copy of the pieces. -/
theorem pieces_own (B b : Nat) (ps : List Pc) (w : World) (h : PatAt B b ps w) (hl : ps.length ≤ 1048576) :
    Calls Tryd.prog 13 #[.pointer (some ⟨b, 0, none⟩)] w fun x w' => ∃ v, x = .returned v ∧ w'.ownsRow w.heap.size 41 5 v ps.length (cellsL ps) ∧ Below w.heap.size w w' := by
  obtain ⟨hB, v, u, hpb, hrow, hplain⟩ := h
  obtain ⟨i0, z0, hi, hz0, hz1, hz2, hz3⟩ := piece_parts
  obtain ⟨⟨c0, c1⟩, _, hbz⟩ := cells2 hpb
  have q48 : ∀ (w : World) (a : Option Addr) (n c n' c' : Nat), (binOp .eql 24 (.slice a n c) (.slice none n' c')).run Tryd.prog w = .ok (.bool a.isNone) w := fun w a n c n' c' => Lib.run_eql_slice_nil w _ _ a n c n' c' Tryd.underlying24
  have HC : Hid (Calls Tryd.prog 27 #[v] w fun x w' => ∃ v, x = .returned v ∧ w'.ownsRow w.heap.size 41 5 v ps.length (cellsL ps) ∧ Below w.heap.size w w') := by
    rcases hrow.2 with ⟨rfl, h0⟩ | ⟨g, cap, cur, rfl, hgl, hgb, hnc, hcm, hcz, htk⟩
    · have hp : ps = [] := List.length_eq_zero_iff.1 h0
      subst hp
      clear hrow hplain hpb
      refine Lib.hid ?_
      go_enter Tryd.func27, Tryd.ntmps27
      go_wp2
      go_ret
      exact ⟨_, rfl, World.ownsRow_nil _ _ _ _, Below.refl _ _⟩
    · have hnews : ∀ j y, (cellsL ps)[j]? = some y → (w.alloc (.cells #[] 41)).cell? ((⟨g, 0, none⟩ : Addr).add j) = some y := fun j y hj => by
        have h1 := (hrow.alloc (.cells #[] 41)).cells (g := g) rfl j y hj
        exact h1
      have hone : ∀ y ∈ cellsL ps, y.oneCell' = true := fun y hy => by
        unfold cellsL at hy
        obtain ⟨x, hx, hyx⟩ := List.mem_flatten.1 hy
        obtain ⟨p, _, rfl⟩ := List.mem_map.1 hx
        exact one5 _ _ _ _ _ y hyx
      have hown0 := World.ownsRow_made (base := w.heap.size) (e := 41) (size := 5) w #[] 0 (Nat.le_refl _) (by unfold maxLen; omega) rfl
      have HN := Lib.hid hnews
      have HON := Lib.hid hone
      have HO0 := Lib.hid hown0
      have hcl := cellsL_len ps
      have HCL := Lib.hid hcl
      clear hrow hplain hpb hnews hone hown0 hgb hcz htk hcl
      refine Lib.hid ?_
      go_enter Tryd.func27, Tryd.ntmps27
      go_wp2_with (at_builtin; refine wpList_append_own _ rfl _ _ 24 rfl w.heap.size 41 i0 z0 5 40 Tryd.underlying24 hi hz0 hz1 hz2 hz3 (by decide) _ _ _ rfl HO0.out ⟨g, 0, none⟩ ps.length cap (cellsL ps) rfl HCL.out HN.out HON.out (by unfold maxLen; omega) (by omega) (by simp) ?_)
      intro v' w4 hown' hgr _
      have HE : Hid (w4.ownsRow w.heap.size 41 5 v' ps.length (cellsL ps) ∧ Below w.heap.size w w4) := Lib.hid ⟨by simpa using hown', ((Below.refl w.heap.size w).alloc (Nat.le_refl _) _).grown hgr (by simp) (fun k hk => (HO0.out.lt k hk).1)⟩
      clear hown' hgr
      go_wp2
      go_ret
      exact ⟨_, rfl, HE.out.1, HE.out.2⟩
  clear hrow hplain hpb
  obtain ⟨vv, hvv⟩ : ∃ vv, vv = v := ⟨_, rfl⟩
  go_enter Tryd.func13, Tryd.ntmps13
  go_wp2_with fail
  refine HC.out.mono ?_
  rintro x w1 ⟨v', rfl, hown, hb1⟩
  have HE : Hid (w1.ownsRow w.heap.size 41 5 v' ps.length (cellsL ps) ∧ Below w.heap.size w w1) := Lib.hid ⟨hown, hb1⟩
  clear hown hb1
  go_wp2
  go_ret
  exact ⟨_, rfl, HE.out.1, HE.out.2⟩
end Go.Proofs.YtoodpajbefffhaaDoor
/- The contract of endsOf. -/
namespace Go.Proofs.YtoodpajbefffhaaDoor
open Go.RowKit

/-- What lies while the pieces are gone through. -/
structure EI (s : List Int) (ps : List Pc) (w0 : World) (sv : Value) (r n k : Nat) (X : World) : Prop where
  bel : Below w0.heap.size w0 X
  ge : w0.heap.size ≤ r
  st : ∃ b1 b2 t P Q, X.heap[r]? = some (.cells #[sv, slv b1 n, slv b2 n, .int .i64 (t : Nat)] 81 (0, 0)) ∧ PL X b1 n P ∧ PL X b2 n Q ∧ w0.heap.size ≤ b1 ∧ w0.heap.size ≤ b2 ∧ b1 ≠ b2 ∧ Fits s P ∧
    endsP s (ps.drop k) P = epl ps s ∧ t + cends s (ps.drop k) P = cends s ps P0
theorem run_ne {X : World} {r b n : Nat} {P : Nat → Bool} {cs : Array Value} (h : PL X b n P) (hr : X.heap[r]? = some (.cells cs 81 (0, 0))) : r ≠ b := fun e => by
  obtain ⟨c, hb, _⟩ := h; rw [← e, hr] at hb; simp at hb
theorem p0_plus : plus (fun _ => false) 0 = P0 := by funext k; unfold plus P0; simp

theorem betw_many {s : List Int} {P : Nat → Bool} {k0 : Nat} (hk : P k0 = true) (hl : ∀ j, j < k0 → P j = false) (k : Nat) : betw k0 s.length k = stp s .many P k := by
  unfold betw
  rw [Bool.eq_iff_iff, stp_iff]
  simp only [Bool.and_eq_true, decide_eq_true_eq]
  constructor
  · rintro ⟨h1, h2⟩
    exact ⟨k0, h1, h2, hk, trivial⟩
  · rintro ⟨i, h1, h2, h3, _⟩
    refine ⟨Nat.le_of_not_lt fun h => ?_, h2⟩
    rw [hl i (by omega)] at h3; cases h3
theorem drop_at {ps : List Pc} {k : Nat} {x : Pc} (h : ps[k]? = some x) : ps.drop k = x :: ps.drop (k + 1) := by
  obtain ⟨hk, he⟩ := List.getElem?_eq_some_iff.1 h
  rw [List.drop_eq_getElem_cons hk, he]
theorem run_set1 {X : World} {b : Nat} {v0 v1 v2 v3 y : Value} {T : TypeId} (h : X.heap[b]? = some (.cells #[v0, v1, v2, v3] T (0, 0))) : (X.setCell ⟨b, 1, none⟩ y).heap[b]? = some (.cells #[v0, y, v2, v3] T (0, 0)) := by
  show (X.heap.modify b _)[b]? = _
  rw [Array.getElem?_modify, if_pos rfl, h]
  rfl
theorem run_set2 {X : World} {b : Nat} {v0 v1 v2 v3 y : Value} {T : TypeId} (h : X.heap[b]? = some (.cells #[v0, v1, v2, v3] T (0, 0))) : (X.setCell ⟨b, 2, none⟩ y).heap[b]? = some (.cells #[v0, v1, y, v3] T (0, 0)) := by
  show (X.heap.modify b _)[b]? = _
  rw [Array.getElem?_modify, if_pos rfl, h]
  rfl
/-- A piece is done: the two sets change places. -/
theorem EI.swap {s : List Int} {ps : List Pc} {w0 : World} {sv : Value} {r n k : Nat} {X : World} {b1 b2 t t' : Nat} {P : Nat → Bool} {x : Pc} (hx : ps[k]? = some x) (hbel : Below w0.heap.size w0 X) (hr : w0.heap.size ≤ r)
    (hrun : X.heap[r]? = some (.cells #[sv, slv b1 n, slv b2 n, .int .i64 (t' : Nat)] 81 (0, 0))) (h1 : PL X b1 n P) (h2 : PL X b2 n (stp s x P)) (g1 : w0.heap.size ≤ b1) (g2 : w0.heap.size ≤ b2) (h12 : b1 ≠ b2)
    (ht : t' = t + cstp s x P) (he : endsP s (ps.drop k) P = epl ps s) (hc : t + cends s (ps.drop k) P = cends s ps P0) :
    EI s ps w0 sv r n (k + 1) ((X.setCell ⟨r, 1, none⟩ (slv b2 n)).setCell ⟨r, 2, none⟩ (slv b1 n)) := by
  have n1 := run_ne h1 hrun
  have n2 := run_ne h2 hrun
  rw [drop_at hx] at he hc
  refine ⟨(hbel.setCell hr _).setCell hr _, hr, b2, b1, t', stp s x P, P, ?_, ((h2.other (fun e => n2 e.symm) _).other (fun e => n2 e.symm) _), ((h1.other (fun e => n1 e.symm) _).other (fun e => n1 e.symm) _), g2, g1, fun e => h12 e.symm, stp_fits s x P, he, ?_⟩
  · exact run_set2 (run_set1 hrun)
  · rw [ht]
    have : cends s (x :: ps.drop (k + 1)) P = cstp s x P + cends s (ps.drop (k + 1)) (stp s x P) := rfl
    omega
theorem EI.drew {s : List Int} {ps : List Pc} {w0 : World} {sv : Value} {r n k : Nat} {X : World} (h : EI s ps w0 sv r n k X) : EI s ps w0 sv r n k X.drew := ⟨h.bel.drew, h.ge, h.st⟩

set_option maxRecDepth 100000 in
set_option maxHeartbeats 16000000 in
theorem ends_any (s : List Int) (ps : List Pc) (sv v : Value) (B : Nat) (w : World) (hT : TZ w) (hs : Sl w sv s) (hlen : s.length ≤ 1099511627776) (hrow : w.ownsRow B 41 5 v ps.length (cellsL ps)) (hl : ps.length ≤ 1048576) :
    Calls Tryd.prog 30 #[v, sv] w fun e w' => ∃ b, e = .returned (.tuple #[.slice (some ⟨b, 0, none⟩) (s.length / 64 + 1) (s.length / 64 + 1), .int .i64 (cends s ps P0 : Nat)]) ∧ PL w' b (s.length / 64 + 1) (epl ps s) ∧ Below w.heap.size w w' := by
  obtain ⟨n, hn⟩ : ∃ n, n = s.length / 64 + 1 := ⟨_, rfl⟩
  obtain ⟨len, hle⟩ : ∃ l, l = s.length := ⟨_, rfl⟩
  obtain ⟨sa, sc, hsv⟩ : ∃ a c, sv = .slice a len c := by
    rw [hle]
    rcases hs.2.2 with ⟨rfl, a, cap, rfl⟩ | ⟨x, o, cap, rfl, _⟩
    · exact ⟨a, cap, rfl⟩
    · exact ⟨_, cap, rfl⟩
  subst hsv
  obtain ⟨pa, pc, hpv⟩ := own_shp hrow
  obtain ⟨m, hm⟩ : ∃ m, m = ps.length := ⟨_, rfl⟩
  rw [← hm] at hpv hl
  subst hpv
  have hN1 := Lib.hid (noPlaces_any len (by omega) w)
  rw [show len / 64 + 1 = n by omega] at hN1
  have hN2 := Lib.hid (fun X => noPlaces_any len (by omega) X)
  rw [show len / 64 + 1 = n by omega] at hN2
  have HA := Lib.hid (fun (b : Nat) (P : Nat → Bool) (X : World) (h : PL X b n P) => addP_any b n 0 P X h (by omega) (by omega))
  rw [← hn]
  have hnb : n ≤ 2199023255553 := by omega
  have HNN : Hid (s.length / 64 + 1 = n) := Lib.hid hn.symm
  have HLE := Lib.hid hle
  have HM := Lib.hid hm
  have HT := Lib.hid hT
  have HS := Lib.hid hs
  have HROW := Lib.hid hrow
  have hn0 : 0 < n := by omega
  clear hn hle hm hT hs hrow
  go_enter Tryd.func30, Tryd.ntmps30
  go_wp2_with fail
  refine hN1.out.mono ?_
  rintro e w1 ⟨rfl, rfl⟩
  go_wp2_with fail
  refine (hN2.out _).mono ?_
  rintro e w2 ⟨rfl, rfl⟩
  go_wp2_with fail
  obtain ⟨W, hW⟩ : ∃ W, W = ((w.alloc (.cells (madeCells #[.int .u64 0] n) 37)).alloc (.cells (madeCells #[.int .u64 0] n) 37)).alloc (.cells #[.slice sa len sc, .slice (some ⟨w.heap.size, 0, none⟩) n n, .slice (some ⟨w.heap.size + 1, 0, none⟩) n n, .int .i64 0] 81) := ⟨_, rfl⟩
  rw [← hW]
  have HP1 : Hid (PL W w.heap.size n (fun _ => false)) := Lib.hid (by rw [hW]; exact ((PL.made w n).alloc _).alloc _)
  have HP2 : Hid (PL W (w.heap.size + 1) n (fun _ => false)) := Lib.hid (by rw [hW]; have := PL.made (w.alloc (.cells (madeCells #[.int .u64 0] n) 37)) n; rw [World.size_alloc] at this; exact this.alloc _)
  have HRN : Hid (W.heap[w.heap.size + 2]? = some (.cells #[.slice sa len sc, slv w.heap.size n, slv (w.heap.size + 1) n, .int .i64 ((0 : Nat) : Int)] 81 (0, 0))) := Lib.hid (by
    have := alloc_last ((w.alloc (.cells (madeCells #[.int .u64 0] n) 37)).alloc (.cells (madeCells #[.int .u64 0] n) 37)) (.cells #[.slice sa len sc, .slice (some ⟨w.heap.size, 0, none⟩) n n, .slice (some ⟨w.heap.size + 1, 0, none⟩) n n, .int .i64 0] 81)
    rw [World.size_alloc, World.size_alloc, ← hW] at this
    exact this)
  have HBW : Hid (Below w.heap.size w W) := Lib.hid (by rw [hW]; exact (((Below.refl _ _).alloc (Nat.le_refl _) _).alloc (by simp) _).alloc (by simp; omega) _)
  clear hW
  have hA1 := HA.out w.heap.size (fun _ => false) W HP1.out
  rw [p0_plus] at hA1
  have HA1 := Lib.hid hA1
  clear hA1
  go_wp2_with fail
  refine HA1.out.mono ?_
  rintro e w3 ⟨rfl, hp3, hg3⟩
  have HI0 : Hid (EI s ps w (.slice sa len sc) (w.heap.size + 2) n 0 w3) := Lib.hid ⟨HBW.out.grown hg3 HBW.out.size (fun k hk => by obtain rfl := Option.some.inj hk; exact Nat.le_refl _), by omega, w.heap.size, w.heap.size + 1, 0, P0, fun _ => false, blk_grown HRN.out hg3 (by simp), hp3, HP2.out.kept (hg3.block _ HP2.out.lt (by simp)), Nat.le_refl _, by omega, by omega, P0_fits s, rfl, by rw [Nat.zero_add]; rfl⟩
  obtain ⟨r, hr⟩ : ∃ r, r = w.heap.size + 2 := ⟨_, rfl⟩
  have hr0 : w.heap.size ≤ r := by omega
  rw [← hr] at HI0 ⊢
  clear hr hp3 hg3 HA1 HP1 HP2 HRN HBW hN1 hN2
  go_wp2_with fail
  go_loopw [27] (fun i X => ∃ k : Nat, i = .int .i64 k ∧ k ≤ m ∧ EI s ps w (.slice sa len sc) r n k X) (fun i _ => m - (intOf i).toNat)
  case atStart => exact ⟨0, rfl, Nat.zero_le _, HI0.out⟩
  case round =>
    obtain ⟨k, rfl, hk, hI⟩ := hrel
    obtain ⟨hbel, _, b1, b2, t, P, Q, hrun, hpl1, hpl2, hg1, hg2, h12, hf, he, hct⟩ := hI
    obtain ⟨⟨c0, c1, c2, c3⟩, hfz, hrz⟩ := cells4b hrun
    unfold slv at c1 c2
    have HBEL := Lib.hid hbel
    have HRUN := Lib.hid hrun
    have HPL1 := Lib.hid hpl1
    have HPL2 := Lib.hid hpl2
    have HF := Lib.hid hf
    have HE := Lib.hid he
    have HCT := Lib.hid hct
    clear hbel hrun hpl1 hpl2 hf he hct
    by_cases hlt : k < m
    · have hltL : k < ps.length := by rw [← HM.out]; exact hlt
      obtain ⟨x, hx⟩ : ∃ x, ps[k]? = some x := ⟨ps[k], List.getElem?_eq_getElem hltL⟩
      have hro := HROW.out
      rw [← HM.out] at hro
      obtain ⟨g, hg⟩ : ∃ g, pa = some ⟨g, 0, none⟩ := by
        rcases hro.2 with ⟨_, h0⟩ | ⟨g, cap', cur, e, _⟩
        · omega
        · simp only [Value.slice.injEq] at e
          exact ⟨g, e.1⟩
      subst hg
      have hro2 := own_drop hro HBEL.out
      have p0 := piece_at hro2 hx 0 (by decide) _ rfl
      have p1 := piece_at hro2 hx 1 (by decide) _ rfl
      have p2 := piece_at hro2 hx 2 (by decide) _ rfl
      have p3 := piece_at hro2 hx 3 (by decide) _ rfl
      have p4 := piece_at hro2 hx 4 (by decide) _ rfl
      rw [Nat.add_zero] at p0
      have hkI : (k : Int) < (m : Int) := by omega
      have HXX := Lib.hid hx
      clear hro hro2 hx
      go_wp2_with fail
      obtain ⟨bx, hbx⟩ : ∃ bx, bx = wr.heap.size := ⟨_, rfl⟩
      obtain ⟨X1, hX1⟩ : ∃ X, X = wr.alloc (.cells #[.int .i64 x.kind, .int .u64 (sw x.set 0 : Nat), .int .u64 (sw x.set 1 : Nat), .int .u64 (sw x.set 2 : Nat), .int .u64 (sw x.set 3 : Nat)] 41) := ⟨_, rfl⟩
      rw [← hX1, ← hbx]
      have HB1 : Hid (Below w.heap.size w X1) := Lib.hid (by rw [hX1]; exact HBEL.out.alloc HBEL.out.size _)
      have HR1 : Hid (X1.heap[r]? = some (.cells #[.slice sa len sc, slv b1 n, slv b2 n, .int .i64 (t : Nat)] 81 (0, 0))) := Lib.hid (by rw [hX1]; exact blk_alloc HRUN.out _)
      have HQ1 : Hid (PL X1 b1 n P) := Lib.hid (by rw [hX1]; exact HPL1.out.alloc _)
      have HQ2 : Hid (PL X1 b2 n Q) := Lib.hid (by rw [hX1]; exact HPL2.out.alloc _)
      have HBX : Hid (X1.heap[bx]? = some ((.cells #[.int .i64 x.kind, .int .u64 (sw x.set 0 : Nat), .int .u64 (sw x.set 1 : Nat), .int .u64 (sw x.set 2 : Nat), .int .u64 (sw x.set 3 : Nat)] 41 (0, 0)))) := Lib.hid (by rw [hX1, hbx]; exact alloc_last wr _)
      clear hX1 hbx c0 c1 c2 c3 hfz hrz p0 p1 p2 p3 p4 HRUN HPL1 HPL2 HBEL
      have hL := leastP_any b1 n P X1 (HT.out.below HB1.out) HQ1.out hnb
      rcases lea_cases P (64 * n) with ⟨k0, hk0, hpk, hno, hlea⟩ | ⟨hno, hlea⟩
      · rw [hlea] at hL
        have HL : Hid (Calls Tryd.prog 41 #[.slice (some ⟨b1, 0, none⟩) n n] X1 fun e w' => e = .returned (.tuple #[.int .i64 (k0 : Nat), .bool true]) ∧ w' = X1) := Lib.hid hL
        have HPK := Lib.hid hpk
        have HNO := Lib.hid hno
        have hk0l : k0 ≤ len := by rw [HLE.out]; exact HF.out k0 hpk
        clear hL hlea hpk hno
        obtain ⟨⟨q0, q1, q2, q3⟩, _, qrz⟩ := cells4b HR1.out
        unfold slv at q2
        clear q0 q1 q3
        have hclr := clear_run HQ2.out hn0
        obtain ⟨hcl1, hcl2⟩ := HQ2.out.clear
        obtain ⟨X2, hX2⟩ : ∃ X, X = X1.setCells b2 0 (List.replicate n (.int .u64 0)) := ⟨_, rfl⟩
        rw [← hX2] at hclr hcl1 hcl2
        have HP22 := Lib.hid hcl1
        have HG2 := Lib.hid hcl2
        have hbx2 : bx ≠ b2 := fun e => by obtain ⟨cs, hb, _⟩ := HQ2.out; rw [← e, HBX.out] at hb; simp at hb
        have HBX2 : Hid (X2.heap[bx]? = some ((.cells #[.int .i64 x.kind, .int .u64 (sw x.set 0 : Nat), .int .u64 (sw x.set 1 : Nat), .int .u64 (sw x.set 2 : Nat), .int .u64 (sw x.set 3 : Nat)] 41 (0, 0)))) := Lib.hid (blk_grown HBX.out hcl2 (by simpa using fun e : b2 = bx => hbx2 e.symm))
        have HR2 : Hid (X2.heap[r]? = some (.cells #[.slice sa len sc, slv b1 n, slv b2 n, .int .i64 (t : Nat)] 81 (0, 0))) := Lib.hid (blk_grown HR1.out hcl2 (by simpa using fun e : b2 = r => run_ne HQ2.out HR1.out e.symm))
        have HP21 : Hid (PL X2 b1 n P) := Lib.hid (HQ1.out.kept (hcl2.block _ HQ1.out.lt (by simpa using h12)))
        have HB2 : Hid (Below w.heap.size w X2) := Lib.hid (HB1.out.grown hcl2 HB1.out.size (fun k hk => by obtain rfl := Option.some.inj hk; exact hg2))
        obtain ⟨x0, x1, x2, x3, x4⟩ := cells5 HBX2.out
        have hbz := lt_blkB HBX2.out
        obtain ⟨⟨y0, y1, y2, y3⟩, _, yrz⟩ := cells4b HR2.out
        unfold slv at y2
        clear hX2 hcl1 hcl2 hbx2 y0 y1 y3
        by_cases hmany : x = .many
        · have hk3 : (x.kind == 3) = true := by rw [hmany]; rfl
          have HFI := Lib.hid (fill_any b2 n k0 len X2 HP22.out hk0l (by rw [HLE.out]; exact HNN.out) hnb)
          have HXM := Lib.hid hmany
          clear hmany
          go_wp2_with fail
          refine HL.out.mono ?_
          rintro e w4 ⟨rfl, rfl⟩
          go_wp2_with fail
          refine HFI.out.mono ?_
          rintro e X3 ⟨rfl, hp3, hg3⟩
          have HP32 : Hid (PL X3 b2 n (stp s x P)) := Lib.hid (hp3.congr fun i _ => sw_congrP fun j _ => by rw [HXM.out, ← betw_many HPK.out HNO.out, HLE.out])
          have HP31 : Hid (PL X3 b1 n P) := Lib.hid (HP21.out.kept (hg3.block _ HP21.out.lt (by simpa using h12)))
          have HR3 : Hid (X3.heap[r]? = some (.cells #[.slice sa len sc, slv b1 n, slv b2 n, .int .i64 (t : Nat)] 81 (0, 0))) := Lib.hid (blk_grown HR2.out hg3 (by simpa using fun e : b2 = r => run_ne HP22.out HR2.out e.symm))
          have HB3 : Hid (Below w.heap.size w X3) := Lib.hid (HB2.out.grown hg3 HB2.out.size (fun k hk => by obtain rfl := Option.some.inj hk; exact hg2))
          have HT3 : Hid (t = t + cstp s x P) := Lib.hid (by rw [HXM.out]; rfl)
          clear hp3 hg3 hclr x0 x1 x2 x3 x4 y2 yrz q2 qrz
          obtain ⟨⟨q0, q1, q2, q3⟩, _, qrz⟩ := cells4b HR3.out
          have qf1 := Lib.frozen_of_heap HR3.out 1
          have qf2 := Lib.frozen_of_heap HR3.out 2
          unfold slv at q1 q2
          have HSW := Lib.hid (EI.swap HXX.out HB3.out hr0 HR3.out HP31.out HP32.out hg1 hg2 h12 HT3.out HE.out HCT.out)
          unfold slv at HSW
          clear q0 q3
          go_wp2_with fail
          go_region
          all_goals
            go_wp2_with fail
            go_roundw
            case rel => exact ⟨k + 1, by go_num, by omega, HSW.out.drew⟩
            case measure => simp [intOf]; omega
        · have hk3 : (x.kind == 3) = false := by cases x <;> first | exact absurd rfl hmany | rfl
          have htb : t ≤ 4611686018427387904 := by
            have h1 := HCT.out
            have h2 := cends_le s ps P0
            have h3 : s.length * ps.length ≤ 1099511627776 * 1048576 := Nat.mul_le_mul hlen (by rw [← HM.out]; exact hl)
            omega
          have HCM := Lib.hid (cmp_any s x hmany P HF.out k0 HPK.out (by omega) (.slice sa len sc) b1 b2 r t htb w X2 HT.out HS.out HB2.out hg2 hr0 h12 n HNN.out HR2.out HP21.out HP22.out)
          have hxv : x.v = .agg #[.int .i64 x.kind, .int .u64 (sw x.set 0 : Nat), .int .u64 (sw x.set 1 : Nat), .int .u64 (sw x.set 2 : Nat), .int .u64 (sw x.set 3 : Nat)] := rfl
          rw [hxv] at HCM
          have HXM := Lib.hid hmany
          clear hmany hxv htb
          go_wp2_with fail
          refine HL.out.mono ?_
          rintro e w4 ⟨rfl, rfl⟩
          go_wp2_with fail
          refine HCM.out.mono ?_
          rintro e X3 ⟨rfl, bp, hci⟩
          have HP32 : Hid (PL X3 b2 n (stp s x P)) := Lib.hid (hci.full (Nat.le_refl _))
          have HP31 : Hid (PL X3 b1 n P) := Lib.hid hci.p1
          have HR3 := Lib.hid hci.run
          have HB3 : Hid (Below w.heap.size w X3) := Lib.hid hci.bel
          have HT3 : Hid (t + cntP P s.length = t + cstp s x P) := Lib.hid (by
            have := HXM.out
            cases x
            · exact absurd rfl this
            · rfl
            · rfl)
          clear hci hclr x0 x1 x2 x3 x4 y2 yrz q2 qrz
          obtain ⟨⟨q0, q1, q2, q3⟩, _, qrz⟩ := cells4b HR3.out
          have qf1 := Lib.frozen_of_heap HR3.out 1
          have qf2 := Lib.frozen_of_heap HR3.out 2
          unfold slv at q1 q2
          have HSW := Lib.hid (EI.swap HXX.out HB3.out hr0 HR3.out HP31.out HP32.out hg1 hg2 h12 HT3.out HE.out HCT.out)
          unfold slv at HSW
          clear q0 q3
          go_wp2_with fail
          go_region
          all_goals
            go_wp2_with fail
            go_roundw
            case rel => exact ⟨k + 1, by go_num, by omega, HSW.out.drew⟩
            case measure => simp [intOf]; omega
      · rw [hlea] at hL
        have HL : Hid (Calls Tryd.prog 41 #[.slice (some ⟨b1, 0, none⟩) n n] X1 fun e w' => e = .returned (.tuple #[.int .i64 0, .bool false]) ∧ w' = X1) := Lib.hid hL
        have hall : ∀ j, P j = false := fun j => by
          cases hp : P j
          · rfl
          · have h1 := HF.out j hp
            have h2 := HNN.out
            rw [hno j (by omega)] at hp; cases hp
        have HRES : Hid (cends s ps P0 = t ∧ PL X1 b1 n (epl ps s) ∧ Below w.heap.size w X1.drew) := Lib.hid ⟨by
          have h1 := HCT.out
          rw [cends_none s _ P hall] at h1
          omega, HQ1.out.congr fun i _ => sw_congrP fun j _ => by
            rw [← HE.out, ends_none s _ P hall, hall], HB1.out.drew⟩
        clear hL hlea hno hall
        obtain ⟨⟨q0, q1, q2, q3⟩, _, qrz⟩ := cells4b HR1.out
        unfold slv at q1
        clear q0 q2
        go_wp2_with fail
        refine HL.out.mono ?_
        rintro e w4 ⟨rfl, rfl⟩
        go_wp2_with fail
        go_region
        all_goals
          go_wp2
          go_ret2
          exact ⟨b1, by rw [HRES.out.1]; rfl, HRES.out.2.1, HRES.out.2.2⟩
    · have hkm : k = ps.length := by rw [← HM.out]; omega
      have HRES : Hid (cends s ps P0 = t ∧ PL wr b1 n (epl ps s) ∧ Below w.heap.size w wr.drew) := Lib.hid ⟨by
        have h1 := HCT.out
        rw [hkm, List.drop_length] at h1
        exact h1.symm, HPL1.out.congr fun i _ => sw_congrP fun j _ => by
          have h1 := HE.out
          rw [hkm, List.drop_length] at h1
          rw [← h1]; rfl, HBEL.out.drew⟩
      clear hkm c0 c2
      go_wp2_with fail
      go_region
      all_goals
        go_wp2
        go_ret2
        exact ⟨b1, by rw [HRES.out.1]; rfl, HRES.out.2.1, HRES.out.2.2⟩
end Go.Proofs.YtoodpajbefffhaaDoor
/- slices.Reverse at bytes and at pieces, bytes.Clone: of rows of one's own. -/
namespace Go.Proofs.YtoodpajbefffhaaDoor
open Go.RowKit

instance : Inhabited Pc := ⟨.many⟩
end Go.Proofs.YtoodpajbefffhaaDoor
/- Contracts of Match, Prefix, Suffix, Steps. -/
namespace Go.Proofs.YtoodpajbefffhaaDoor
open Go.RowKit

set_option maxRecDepth 100000 in
set_option maxHeartbeats 4000000 in
theorem isMatch_any (s : List Int) (ps : List Pc) (sv v : Value) (B : Nat) (w : World) (hT : TZ w) (hs : Sl w sv s) (hlen : s.length ≤ 1099511627776) (hrow : w.ownsRow B 41 5 v ps.length (cellsL ps)) (hl : ps.length ≤ 1048576) :
    Calls Tryd.prog 16 #[v, sv] w fun e w' => e = .returned (.bool (mtc ps s)) ∧ Below w.heap.size w w' := by
  have HE := Lib.hid (ends_any s ps sv v B w hT hs hlen hrow hl)
  obtain ⟨sa, sc, hsv⟩ : ∃ a c, sv = .slice a s.length c := by
    rcases hs.2.2 with ⟨rfl, a, cap, rfl⟩ | ⟨x, o, cap, rfl, _⟩
    · exact ⟨a, cap, rfl⟩
    · exact ⟨_, cap, rfl⟩
  subst hsv
  have HH : Hid (∀ (b : Nat) (X : World), PL X b (s.length / 64 + 1) (epl ps s) → Calls Tryd.prog 31 #[.slice (some ⟨b, 0, none⟩) (s.length / 64 + 1) (s.length / 64 + 1), .int .i64 (s.length : Nat)] X fun e w' => e = .returned (.bool (mtc ps s)) ∧ w' = X) := Lib.hid fun b X h => hasP_any b (s.length / 64 + 1) s.length (epl ps s) X h (by omega) (by omega)
  generalize mtc ps s = r at *
  clear hT hs hrow
  obtain ⟨n, hn⟩ : ∃ n, n = s.length / 64 + 1 := ⟨_, rfl⟩
  rw [← hn] at HE HH
  clear hn
  obtain ⟨len, hle⟩ : ∃ l, l = s.length := ⟨_, rfl⟩
  rw [← hle] at HE HH hlen ⊢
  clear hle
  go_enter Tryd.func16, Tryd.ntmps16
  go_wp2_with fail
  refine HE.out.mono ?_
  rintro e w1 ⟨b, rfl, hp1, hb1⟩
  have HB1 := Lib.hid hb1
  have HHH := Lib.hid (HH.out b w1 hp1)
  clear hb1 hp1
  go_wp2_with fail
  refine HHH.out.mono ?_
  rintro e w2 ⟨rfl, rfl⟩
  go_wp2
  go_ret
  exact ⟨rfl, HB1.out⟩

set_option maxRecDepth 100000 in
set_option maxHeartbeats 4000000 in
theorem match_any (s : List Int) (ps : List Pc) (sv : Value) (B b : Nat) (w : World) (hT : TZ w) (hs : Sl w sv s) (hlen : s.length ≤ 1099511627776) (hp : PatAt B b ps w) (hl : ps.length ≤ 1048576) :
    Calls Tryd.prog 20 #[.pointer (some ⟨b, 0, none⟩), sv] w fun e w' => e = .returned (.bool (mtc ps s)) ∧ Below w.heap.size w w' := by
  have HP := Lib.hid (pieces_own B b ps w hp hl)
  have HI := Lib.hid (fun (v : Value) (X : World) (hb : Below w.heap.size w X) (hr : X.ownsRow w.heap.size 41 5 v ps.length (cellsL ps)) => isMatch_any s ps sv v w.heap.size X (hT.below hb) (hs.below hb) hlen hr hl)
  clear hT hs hp
  generalize mtc ps s = r at *
  go_enter Tryd.func20, Tryd.ntmps20
  go_wp2_with fail
  refine HP.out.mono ?_
  rintro e w1 ⟨v, rfl, hr1, hb1⟩
  have HB1 := Lib.hid hb1
  have HII := Lib.hid (HI.out v w1 hb1 hr1)
  clear hb1 hr1
  go_wp2_with fail
  refine HII.out.mono ?_
  rintro e w2 ⟨rfl, hb2⟩
  have HB2 := Lib.hid (below_thn HB1.out (Nat.le_refl _) hb2)
  clear hb2
  go_wp2
  go_ret
  exact ⟨rfl, HB2.out⟩

end Go.Proofs.YtoodpajbefffhaaDoor
namespace Go.Proofs.YtoodpajbefffhaaDoor
open Go.RowKit

set_option maxRecDepth 100000 in
set_option maxHeartbeats 4000000 in
theorem read_ok (cf : ByteArray → (Nat → Bool) × Bool) (hcf : ClassOk cf) (e : Nat → Addr) (v : Value) (l : List Int) (w : World) (he : Es w w.heap.size e) (hT : TZ w) (hs : Sl w v l) (hl : l.length ≤ 256) :
    Calls Tryd.prog 6 #[v] w fun x w' => ∃ b, x = .returned (.pointer (some ⟨b, 0, none⟩)) ∧ PatAt w.heap.size b (glP cf l) w' ∧ Below w.heap.size w w' := by
  have HP := Lib.hid (parse_ok cf hcf e v l w he hT hs hl)
  clear he hT hs
  go_enter Tryd.func6, Tryd.ntmps6
  go_wp2_with fail
  refine HP.out.mono ?_
  rintro x w1 ⟨b, rfl, hp1, hb1⟩
  have HP1 := Lib.hid hp1
  have HB1 := Lib.hid hb1
  clear hp1 hb1
  go_wp2
  go_ret
  exact ⟨b, rfl, HP1.out, HB1.out⟩
set_option maxRecDepth 100000 in
set_option maxHeartbeats 4000000 in
theorem read_long (e : Nat → Addr) (a : Option Addr) (n cap : Nat) (hn : 256 < n) (w : World) (he : Es w w.heap.size e) :
    Calls Tryd.prog 6 #[.slice a n cap] w fun x w' => x = .returned (.pointer none) ∧ Below w.heap.size w w' := by
  have HP := Lib.hid (parse_long e a n cap hn w he)
  clear he
  go_enter Tryd.func6, Tryd.ntmps6
  go_wp2_with fail
  refine HP.out.mono ?_
  rintro x w1 ⟨v, rfl, her, hb1⟩
  obtain ⟨kk, rfl⟩ := her.iface
  have HB1 := Lib.hid hb1
  clear her hb1
  go_wp2
  go_ret
  exact ⟨rfl, HB1.out⟩

theorem aw7a (cf : ByteArray → (Nat → Bool) × Bool) : glP cf [97, 42, 98] = [.byt (mem [97]), .many, .byt (mem [98])] := by kernel_rfl
theorem aw7b (cf : ByteArray → (Nat → Bool) × Bool) : glP cf [97, 63] = [.byt (mem [97]), .one] := by kernel_rfl
theorem aw7c : mtc [.byt (mem [97]), .many, .byt (mem [98])] [97, 88, 98] = true := by kernel_rfl
theorem aw7d : mtc [.byt (mem [97]), .one] [97] = false := by kernel_rfl
theorem sl_lit (w : World) (l : List Int) (c : Nat) (z : Nat × Nat) (hl : ∀ x ∈ l, 0 ≤ x ∧ x ≤ 255) (hc : l.length ≤ c) (hcm : c ≤ 9223372036854775807) : Sl (w.alloc (.cells (l.map (Value.int .u8)).toArray 5 z)) (.slice (some ⟨w.heap.size, 0, none⟩) l.length c) l := by
  refine ⟨byt_of hl, by omega, Or.inr ⟨w.heap.size, 0, c, rfl, hc, hcm, fun i hi => ?_⟩⟩
  have hb := alloc_last w (.cells (l.map (Value.int .u8)).toArray 5 z)
  rw [Nat.zero_add]
  simp only [World.cell?, hb, List.getElem?_toArray, List.getElem?_map, List.getElem?_eq_getElem hi, List.getD]
  rfl

set_option maxRecDepth 100000 in
set_option maxHeartbeats 8000000 in
theorem awake7_any (cf : ByteArray → (Nat → Bool) × Bool) (hcf : ClassOk cf) (e : Nat → Addr) (w : World) (he : Es w w.heap.size e) (hT : TZ w) :
    Calls Tryd.prog 7 #[] w fun x w' => x = .returned (.bool true) ∧ Below w.heap.size w w' := by
  have hes : ∀ X, Below w.heap.size w X → Es X X.heap.size e := fun X hX => ⟨(he.below hX).var, Nat.lt_of_lt_of_le he.low hX.size, Nat.le_refl _⟩
  have kc := fun (w : World) (C : Array Value) (n c : Nat) => Lib.run_convert_bytes_const (P := Tryd.prog) w 22 5 C n c Tryd.underlying22 Tryd.underlying5
  have HA : Hid (∀ (X : World) (z : Nat × Nat), Below w.heap.size w (X.alloc (.cells #[.int .u8 97, .int .u8 42, .int .u8 98] 5 z)) → Calls Tryd.prog 6 #[.slice (some ⟨X.heap.size, 0, none⟩) 3 3] (X.alloc (.cells #[.int .u8 97, .int .u8 42, .int .u8 98] 5 z)) fun x w' => ∃ b, x = .returned (.pointer (some ⟨b, 0, none⟩)) ∧ PatAt (X.heap.size + 1) b [.byt (mem [97]), .many, .byt (mem [98])] w' ∧ Below (X.heap.size + 1) (X.alloc (.cells #[.int .u8 97, .int .u8 42, .int .u8 98] 5 z)) w') := Lib.hid fun X z hX => by
    have h := read_ok cf hcf e _ [97, 42, 98] _ (hes _ hX) (hT.below hX) (sl_lit X [97, 42, 98] 3 z (by simp) (by decide) (by decide)) (by decide)
    rw [aw7a] at h
    simp only [World.size_alloc] at h
    exact h
  have HB : Hid (∀ (X : World) (z : Nat × Nat), Below w.heap.size w (X.alloc (.cells #[.int .u8 97, .int .u8 63] 5 z)) → Calls Tryd.prog 6 #[.slice (some ⟨X.heap.size, 0, none⟩) 2 2] (X.alloc (.cells #[.int .u8 97, .int .u8 63] 5 z)) fun x w' => ∃ b, x = .returned (.pointer (some ⟨b, 0, none⟩)) ∧ PatAt (X.heap.size + 1) b [.byt (mem [97]), .one] w' ∧ Below (X.heap.size + 1) (X.alloc (.cells #[.int .u8 97, .int .u8 63] 5 z)) w') := Lib.hid fun X z hX => by
    have h := read_ok cf hcf e _ [97, 63] _ (hes _ hX) (hT.below hX) (sl_lit X [97, 63] 2 z (by simp) (by decide) (by decide)) (by decide)
    rw [aw7b] at h
    simp only [World.size_alloc] at h
    exact h
  have HMA : Hid (∀ (X : World) (z : Nat × Nat) (B b : Nat), Below w.heap.size w (X.alloc (.cells #[.int .u8 97, .int .u8 88, .int .u8 98] 5 z)) → PatAt B b [.byt (mem [97]), .many, .byt (mem [98])] (X.alloc (.cells #[.int .u8 97, .int .u8 88, .int .u8 98] 5 z)) → Calls Tryd.prog 20 #[.pointer (some ⟨b, 0, none⟩), .slice (some ⟨X.heap.size, 0, none⟩) 3 3] (X.alloc (.cells #[.int .u8 97, .int .u8 88, .int .u8 98] 5 z)) fun x w' => x = .returned (.bool true) ∧ Below (X.heap.size + 1) (X.alloc (.cells #[.int .u8 97, .int .u8 88, .int .u8 98] 5 z)) w') := Lib.hid fun X z B b hX hp => by
    have h := match_any [97, 88, 98] _ _ B b _ (hT.below hX) (sl_lit X [97, 88, 98] 3 z (by simp) (by decide) (by decide)) (by decide) hp (by decide)
    rw [aw7c] at h
    simp only [World.size_alloc] at h
    exact h
  have HMB : Hid (∀ (X : World) (z : Nat × Nat) (B b : Nat), Below w.heap.size w (X.alloc (.cells #[.int .u8 97] 5 z)) → PatAt B b [.byt (mem [97]), .one] (X.alloc (.cells #[.int .u8 97] 5 z)) → Calls Tryd.prog 20 #[.pointer (some ⟨b, 0, none⟩), .slice (some ⟨X.heap.size, 0, none⟩) 1 1] (X.alloc (.cells #[.int .u8 97] 5 z)) fun x w' => x = .returned (.bool false) ∧ Below (X.heap.size + 1) (X.alloc (.cells #[.int .u8 97] 5 z)) w') := Lib.hid fun X z B b hX hp => by
    have h := match_any [97] _ _ B b _ (hT.below hX) (sl_lit X [97] 1 z (by simp) (by decide) (by decide)) (by decide) hp (by decide)
    rw [aw7d] at h
    simp only [World.size_alloc] at h
    exact h
  clear he hT hcf hes
  go_enter Tryd.func7, Tryd.ntmps7
  go_wp2_with fail
  refine (HA.out _ _ ((Below.refl _ _).alloc (Nat.le_refl _) _)).mono ?_
  rintro x w1 ⟨b, rfl, hp1, hb1⟩
  have HP1 := Lib.hid hp1
  have HB1 := Lib.hid (((Below.refl w.heap.size w).alloc (Nat.le_refl _) _).trans (hb1.mono (Nat.le_succ _)))
  clear hp1 hb1
  go_wp2_with fail
  refine (HMA.out _ _ _ b (HB1.out.alloc HB1.out.size _) (HP1.out.next ((Below.refl _ _).alloc (Nat.le_refl _) _))).mono ?_
  rintro x w2 ⟨rfl, hb2⟩
  have HB2 : Hid (Below w.heap.size w w2) := Lib.hid ((HB1.out.alloc HB1.out.size _).trans (hb2.mono (by have := HB1.out.size; omega)))
  clear hb2
  go_wp2_with fail
  refine (HB.out _ _ (HB2.out.alloc HB2.out.size _)).mono ?_
  rintro x w3 ⟨b3, rfl, hp3, hb3⟩
  have HP3 := Lib.hid hp3
  have HB3 : Hid (Below w.heap.size w w3) := Lib.hid ((HB2.out.alloc HB2.out.size _).trans (hb3.mono (by have := HB2.out.size; omega)))
  clear hp3 hb3
  go_wp2_with fail
  refine (HMB.out _ _ _ b3 (HB3.out.alloc HB3.out.size _) (HP3.out.next ((Below.refl _ _).alloc (Nat.le_refl _) _))).mono ?_
  rintro x w4 ⟨rfl, hb4⟩
  have HB4 : Hid (Below w.heap.size w w4) := Lib.hid ((HB3.out.alloc HB3.out.size _).trans (hb4.mono (by have := HB3.out.size; omega)))
  clear hb4
  go_wp2
  go_ret
  exact ⟨rfl, HB4.out⟩
end Go.Proofs.YtoodpajbefffhaaDoor
