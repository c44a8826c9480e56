/- GmatchMatches: its walk, opened (gen_gma.py). -/
import Derived.Test.YtopnckfmdjhbjaaDoorKRn
import Derived.Test.YtopnckfmdjhbjaaDoorKRpa
import Derived.Test.YtopnckfmdjhbjaaDoorSeCy
import Derived.Test.YtopnckfmdjhbjaaDoorGmO
namespace Go.Proofs.YtopnckfmdjhbjaaDoor
open Go.RowKit

/-- What lies: a pattern, and the reference's pieces. -/
structure MaI (w : World) (B1 b B : Nat) (r : Value) (ps : List Pc) (X : World) : Prop where
  bel : Below w.heap.size w X
  pat : PatAt B1 b ps X
  row : X.ownsRow B 66 5 r ps.length (cellsL ps)
theorem MaI.nxt {w : World} {B1 b B : Nat} {r : Value} {ps : List Pc} {X X' : World} (h : MaI w B1 b B r ps X) (hb : Below X.heap.size X X') : MaI w B1 b B r ps X' :=
  ⟨below_thn h.bel (Nat.le_refl _) hb, h.pat.next hb, own_drop h.row hb⟩

set_option maxRecDepth 100000 in
set_option maxHeartbeats 8000000 in
theorem gma_long (w : World) (v0 v1 v' : Value) (g : Bool)
    (HF : Hid (∀ X, Calls Tryd.prog 12 #[v1] X fun e w' => e = .returned v' ∧ w' = X))
    (HA : Hid (∀ X, Below w.heap.size w X → Calls Tryd.prog 16 #[] X fun x w' => x = .returned (.bool true) ∧ Below X.heap.size X w'))
    (HR : Hid (Calls Tryd.prog 13 #[v0] w fun x w' => x = .returned (.pointer none) ∧ Below w.heap.size w w'))
    (HRP : Hid (∀ X, Calls Tryd.prog 14 #[v0] X fun e w' => e = .returned (.tuple #[.slice none 0 0, .agg #[.int .i64 2, .int .i64 0, .int .i64 2]]) ∧ Below X.heap.size X w')) :
    Calls Tryd.prog 3 #[v0, v1, .bool g] w fun x w' => x = .returned (.bool true) ∧ Below w.heap.size w w' := by
  go_enter Tryd.func3, Tryd.ntmps3
  go_wp2_with fail
  refine (HF.out _).mono ?_
  rintro x w0 ⟨rfl, rfl⟩
  go_wp2_with fail
  refine HR.out.mono ?_
  rintro x w1 ⟨rfl, hb1⟩
  have HB1 := Lib.hid hb1
  clear hb1
  go_wp2_with fail
  refine (HRP.out _).mono ?_
  rintro x w2 ⟨rfl, hb2⟩
  have HB2 := Lib.hid (below_thn HB1.out (Nat.le_refl _) hb2)
  clear hb2
  have HB3 : Hid (Below w0.heap.size w0 (w2.alloc (.cells #[.int .i64 2, .int .i64 0, .int .i64 2] 28))) := Lib.hid (HB2.out.alloc HB2.out.size _)
  go_wp2_with fail
  refine (match_nil _ _).mono ?_
  rintro x w4 ⟨rfl, rfl⟩
  go_wp2_with fail
  refine (HA.out _ HB3.out).mono ?_
  rintro x w5 ⟨rfl, hb5⟩
  have HB5 := Lib.hid (below_thn HB3.out (Nat.le_refl _) hb5)
  clear hb5
  go_wp2
  go_ret
  exact ⟨rfl, HB5.out⟩

set_option maxRecDepth 100000 in
set_option maxHeartbeats 16000000 in
theorem gma_walk (w : World) (v0 v1 v' : Value) (g ok on m : Bool) (x1 u1 : Nat) (ps : List Pc)
    (HF : Hid (∀ X, Calls Tryd.prog 12 #[v1] X fun e w' => e = .returned v' ∧ w' = X))
    (HA : Hid (∀ X, Below w.heap.size w X → Calls Tryd.prog 16 #[] X fun x w' => x = .returned (.bool true) ∧ Below X.heap.size X w'))
    (HR : Hid (Calls Tryd.prog 13 #[v0] w fun x w' => ∃ b, x = .returned (.pointer (some ⟨b, 0, none⟩)) ∧ PatAt w.heap.size b ps w' ∧ Below w.heap.size w w'))
    (HRP : Hid (∀ X, Below w.heap.size w X → Calls Tryd.prog 14 #[v0] X fun e w' => ∃ r, e = .returned (.tuple #[r, .agg #[.int .i64 0, .int .i64 0, .int .i64 0]]) ∧ w'.ownsRow X.heap.size 66 5 r ps.length (cellsL ps) ∧ Below X.heap.size X w'))
    (HP : Hid (∀ B b X, Below w.heap.size w X → PatAt B b ps X → Calls Tryd.prog 17 #[.pointer (some ⟨b, 0, none⟩), v', .bool g] X fun e w' => e = .returned (.tuple #[.int .i64 (x1 : Nat), .bool ok]) ∧ Below X.heap.size X w'))
    (HS : Hid (∀ B b X, Below w.heap.size w X → PatAt B b ps X → Calls Tryd.prog 19 #[.pointer (some ⟨b, 0, none⟩), v', .bool g] X fun e w' => e = .returned (.tuple #[.int .i64 (u1 : Nat), .bool on]) ∧ Below X.heap.size X w'))
    (HM : Hid (∀ B b X, Below w.heap.size w X → PatAt B b ps X → Calls Tryd.prog 15 #[.pointer (some ⟨b, 0, none⟩), v'] X fun e w' => e = .returned (.bool m) ∧ Below X.heap.size X w'))
    (HPr : Hid (∀ B r X, Below w.heap.size w X → X.ownsRow B 66 5 r ps.length (cellsL ps) → Calls Tryd.prog 18 #[r, v', .bool g] X fun e w' => e = .returned (.tuple #[.int .i64 (x1 : Nat), .bool ok]) ∧ Below X.heap.size X w'))
    (HSr : Hid (∀ B r X, Below w.heap.size w X → X.ownsRow B 66 5 r ps.length (cellsL ps) → Calls Tryd.prog 20 #[r, v', .bool g] X fun e w' => e = .returned (.tuple #[.int .i64 (u1 : Nat), .bool on]) ∧ Below X.heap.size X w'))
    (HMr : Hid (∀ B r X, Below w.heap.size w X → X.ownsRow B 66 5 r ps.length (cellsL ps) → Calls Tryd.prog 21 #[r, v'] X fun e w' => e = .returned (.bool m) ∧ Below X.heap.size X w')) :
    Calls Tryd.prog 3 #[v0, v1, .bool g] w fun x w' => x = .returned (.bool true) ∧ Below w.heap.size w w' := by
  go_enter Tryd.func3, Tryd.ntmps3
  go_wp2_with fail
  refine (HF.out _).mono ?_
  rintro x w0 ⟨rfl, rfl⟩
  go_wp2_with fail
  refine HR.out.mono ?_
  rintro x w1 ⟨b, rfl, hp1, hb1⟩
  have HB1 := Lib.hid hb1
  have HP1 := Lib.hid hp1
  have HRP1 := Lib.hid (HRP.out w1 hb1)
  clear hb1 hp1
  go_wp2_with fail
  refine HRP1.out.mono ?_
  rintro x w2 ⟨r, rfl, hr2, hb2⟩
  have HI3 : Hid (MaI w0 w0.heap.size b w1.heap.size r ps (w2.alloc (.cells #[.int .i64 0, .int .i64 0, .int .i64 0] 28))) := Lib.hid (MaI.nxt ⟨below_thn HB1.out (Nat.le_refl _) hb2, HP1.out.next hb2, hr2⟩ ((Below.refl _ _).alloc (Nat.le_refl _) _))
  clear hr2 hb2
  have HC3 := Lib.hid (HP.out _ _ _ HI3.out.bel HI3.out.pat)
  go_wp2_with fail
  refine HC3.out.mono ?_
  rintro x w4 ⟨rfl, hb3⟩
  have HI4 := Lib.hid (HI3.out.nxt hb3)
  clear hb3 HC3
  have HC4 := Lib.hid (HPr.out _ _ _ HI4.out.bel HI4.out.row)
  go_wp2_with fail
  refine HC4.out.mono ?_
  rintro x w5 ⟨rfl, hb4⟩
  have HI5 := Lib.hid (HI4.out.nxt hb4)
  clear hb4 HC4
  have HC5 := Lib.hid (HS.out _ _ _ HI5.out.bel HI5.out.pat)
  go_wp2_with fail
  refine HC5.out.mono ?_
  rintro x w6 ⟨rfl, hb5⟩
  have HI6 := Lib.hid (HI5.out.nxt hb5)
  clear hb5 HC5
  have HC6 := Lib.hid (HSr.out _ _ _ HI6.out.bel HI6.out.row)
  go_wp2_with fail
  refine HC6.out.mono ?_
  rintro x w7 ⟨rfl, hb6⟩
  have HI7 := Lib.hid (HI6.out.nxt hb6)
  clear hb6 HC6
  have HC7 := Lib.hid (HM.out _ _ _ HI7.out.bel HI7.out.pat)
  go_wp2_with fail
  refine HC7.out.mono ?_
  rintro x w8 ⟨rfl, hb7⟩
  have HI8 := Lib.hid (HI7.out.nxt hb7)
  clear hb7 HC7
  have HC8 := Lib.hid (HMr.out _ _ _ HI8.out.bel HI8.out.row)
  go_wp2_with fail
  refine HC8.out.mono ?_
  rintro x w9 ⟨rfl, hb8⟩
  have HI9 := Lib.hid (HI8.out.nxt hb8)
  clear hb8 HC8
  go_wp2_with fail
  refine (HA.out _ HI9.out.bel).mono ?_
  rintro x w10 ⟨rfl, hb⟩
  have HZ := Lib.hid (below_thn HI9.out.bel (Nat.le_refl _) hb)
  clear hb
  go_wp2
  go_ret
  exact ⟨rfl, HZ.out⟩

theorem gmatches_any (cf : ByteArray → (Nat → Bool) × Bool) (hcf : ClassOk cf) (hrf : ClassRf cf) (e : Nat → Addr) (w : World) (v0 v1 : Value) (l s0 : List Int) (g : Bool) (h0 : Sl w v0 l) (h1 : Sl w v1 s0) (he : Es w w.heap.size e) (hT : TZ w) :
    Calls Tryd.prog 3 #[v0, v1, .bool g] w fun x w' => x = .returned (.bool true) ∧ Below w.heap.size w w' := by
  have hes : ∀ X, Below w.heap.size w X → Es X X.heap.size e := fun X hX => ⟨(he.below hX).var, Nat.lt_of_lt_of_le he.low hX.size, Nat.le_refl _⟩
  have HA : Hid (∀ X, Below w.heap.size w X → Calls Tryd.prog 16 #[] X fun x w' => x = .returned (.bool true) ∧ Below X.heap.size X w') := Lib.hid fun X hX => awake7_any cf hcf e X (hes X hX) (hT.below hX)
  obtain ⟨v', hs, HF, _⟩ := few_sl h1
  have hl60 : (s0.take 60).length ≤ 60 := by simp; omega
  generalize s0.take 60 = s at *
  by_cases hp : l.length ≤ 256
  · have hpl : (glP cf l).length ≤ 256 := Nat.le_trans (glP_len cf l) hp
    refine gma_walk w v0 v1 v' g (pfx g (glP cf l) s).2 (sfx g (glP cf l) s).2 (mtc (glP cf l) s) (pfx g (glP cf l) s).1 (sfx g (glP cf l) s).1 (glP cf l) (Lib.hid HF) HA (Lib.hid (read_ok cf hcf e v0 l w he hT h0 hp)) (Lib.hid fun X hX => rpat_any cf hrf v0 l X (h0.below hX) hp)
      (Lib.hid fun B b X hX hp' => prefix_any g s (glP cf l) v' B b X (hT.below hX) (hs.below hX) (by omega) hp' (by omega))
      (Lib.hid fun B b X hX hp' => suffix_any g s (glP cf l) v' B b X (hT.below hX) (hs.below hX) (by omega) hp' (by omega))
      (Lib.hid fun B b X hX hp' => match_any s (glP cf l) v' B b X (hT.below hX) (hs.below hX) (by omega) hp' (by omega))
      (Lib.hid fun B r X hX hr => rprefix_any g s (glP cf l) v' r B X (hs.below hX) (by omega) hr (by omega))
      (Lib.hid fun B r X hX hr => rsuffix_any g s (glP cf l) v' r B X (hs.below hX) (by omega) hr (by omega))
      (Lib.hid fun B r X hX hr => rmatch_any s (glP cf l) v' r B X (hs.below hX) (by omega) hr (by omega))
  · obtain ⟨a0, c0, rfl⟩ := h0.shapeN
    exact gma_long w _ v1 v' g (Lib.hid HF) HA (Lib.hid (read_long e a0 l.length c0 (by omega) w he)) (Lib.hid fun X => rpat_long a0 l.length c0 (by omega) X)

set_option maxRecDepth 100000 in
theorem gmatchMatches_open {H : Type} {enc : TypeId × Value → H} {d0 d1 d2 : DataW H} {p0 p1 p2 : List MemPlace} {q : Prop} (W : World) (base : Nat) (v0 v1 v2 : Value)
    (h0 : DataW.Trod enc Tryd.prog W 0 (fun _ => true) true 22 v0 d0 p0) (h1 : DataW.Trod enc Tryd.prog W 0 (fun _ => true) true 22 v1 d1 p1) (h2 : DataW.Trod enc Tryd.prog W 0 (fun _ => true) true 4 v2 d2 p2)
    (k0 : Value.okWide Tryd.prog W .any base 22 v0) (k1 : Value.okWide Tryd.prog W .any base 22 v1) (k2 : Value.okWide Tryd.prog W .any base 4 v2) (_ : q) (hL : laidMetH Tryd.prog Rows.gmatchMatchesRow.laid W) :
    Calls Tryd.prog 3 #[v0, v1, v2] W fun e W' => e = .returned (.bool true) ∧ Below W.heap.size W W' := by
  obtain ⟨e, he, hT⟩ := gm_of_laid (by kernel_rfl) (by kernel_rfl) hL
  obtain ⟨cf, hcf, hrf⟩ := classes_ok2
  obtain ⟨l0, hs0, _⟩ := sl_of_w k0 h0
  obtain ⟨l1, hs1, _⟩ := sl_of_w k1 h1
  obtain ⟨g, rfl, _⟩ := RowKit.open_bool Tryd.underlying4 k2 h2
  exact gmatches_any cf hcf hrf e W v0 v1 l0 l1 g hs0 hs1 he hT
end Go.Proofs.YtopnckfmdjhbjaaDoor
