import Derived.Test.YtnecadgoiolpgaaGreatDoorKNw
import Derived.Test.YtnecadgoiolpgaaGreatDoorKNt
import Derived.Test.YtnecadgoiolpgaaGreatDoorKTb
import Derived.Test.YtnecadgoiolpgaaGreatDoorFaFn
namespace Go.Proofs.YtnecadgoiolpgaaGreatDoor
set_option maxHeartbeats 8000000
set_option maxRecDepth 100000
open Go.RowKit Go.Extern.Stop Go.Stop Go.Extern
theorem weightO_at (S : Nat → Prop) (w : World) (b : Nat) (t : Nd) (kv : Value) (g : Nat) (ext : Bool) (h : ReAt w b t kv g ext) (hM : t.sz ≤ 1000000) (hnn : t.nn ≤ 1100) (hok : t.Ok) (hkd : 1 ≤ t.kd) (hin : t.In w S kv) :
  Calls Tryz.prog 30 #[.pointer (some ⟨b, 0, none⟩)] w fun x w' => x = .returned (.int .i64 ((min (t.W + 1) 4001 : Nat) : Int)) ∧ Below w.heap.size w w' := by
 have HT := Lib.hid (Tree_at S w b t kv g ext h hM hin)
 obtain ⟨q, hq⟩ : ∃ q : Nat, q = min t.W 4001 := ⟨_, rfl⟩
 have hq4 : q ≤ 4001 := by rw [hq]; exact Nat.min_le_right _ _
 have HPL := Lib.hid (plus_any q 1 (by omega))
 have hqq : min (q + 1) 4001 = min (t.W + 1) 4001 := by omega
 rw [hqq] at HPL
 generalize min (t.W + 1) 4001 = Q at HPL ⊢
 have HWT : Hid (∀ X S' kv', t.In X S' kv' → Calls Tryz.prog 47 #[t.v kv'] X (fun r w' => r = .returned (.int .i64 (q : Nat)) ∧ Below X.heap.size X w')) := Lib.hid (fun X S' kv' hi => by rw [hq]; exact weight_any t.nn S' t kv' X (Nat.le_refl _) hnn hok hi)
 clear h hM hnn hok hin hq hqq
 obtain ⟨kd, p, mn, mx, gp, kids⟩ := t
 have n0 : ¬ kd = 0 := by simp only at hkd; omega
 have b0 : (kd == 0) = false := beq_eq_false_iff_ne.2 n0
 clear hkd
 unfold ClP at HT
 go_enter Tryz.func30, Tryz.ntmps30
 go_wp2_with fail
 refine HT.out.mono ?_
 rintro x w1 ⟨ta, tm, tc, rfl, hi1, hb1⟩
 obtain ⟨cs, hcs⟩ : ∃ cs : Array Value, cs = #[.int .i64 kd, .int .u64 (sw p 0 : Nat), .int .u64 (sw p 1 : Nat), .int .u64 (sw p 2 : Nat), .int .u64 (sw p 3 : Nat), .int .i64 mn, .int .i64 mx, .int .i64 gp, .slice ta tm tc] := ⟨_, rfl⟩
 have hval : Nd.v ⟨kd, p, mn, mx, gp, kids⟩ (.slice ta tm tc) = .agg cs := by rw [hcs]; rfl
 obtain ⟨W5, hW5⟩ : ∃ W5, W5 = w1.alloc (.cells zero9 65) := ⟨_, rfl⟩
 have HT5 : Hid (W5.heap[w1.heap.size]? = some (.cells zero9 65 (0, 0))) := Lib.hid (by rw [hW5]; exact alloc_last _ _)
 obtain ⟨W6, hW6⟩ : ∃ W6, W6 = W5.setRow w1.heap.size cs := ⟨_, rfl⟩
 have hb6 : Below w1.heap.size w1 W6 := by rw [hW6, hW5]; exact below_setRow ((Below.refl _ _).alloc (Nat.le_refl _) _) (Nat.le_refl _) _
 have hT6 : W6.heap[w1.heap.size]? = some (.cells cs 65 (0, 0)) := by rw [hW6]; exact setRow_selfR HT5.out _
 have HT6 := Lib.hid hT6
 have HS9 : Hid (cs.size = 9) := Lib.hid (by rw [hcs]; rfl)
 have HO9 : Hid (cs.all (·.oneCell') = true) := Lib.hid (by rw [hcs]; simp [Value.oneCell'])
 have HB6 : Hid (Below w.heap.size w W6) := Lib.hid (hb1.trans (hb6.mono hb1.size))
 have HWC := Lib.hid (HWT.out W6 _ _ (hi1.below hb6))
 rw [hval] at HWC ⊢
 have HW5 := Lib.hid hW5
 have HW6 := Lib.hid hW6
 unfold zero9 at HW5 HT5
 rw [hcs] at hT6
 obtain ⟨r0, r1, r2, r3, r4, r5, r6, r7, r8, rz⟩ := cells9s hT6
 clear hW5 hW6 hb6 hT6 hb1 HT hcs hval hi1 HWT
 go_wp2_with (first | (rw [← HW5.out]; refine wpList_store_rowTo rfl 65 _ _ rfl rfl w1.heap.size cs rfl rfl _ _ HT5.out (by rw [HS9.out]; exact nre_size) (by rw [HS9.out]; rfl) HO9.out ?_; rw [← HW6.out]) | (refine wpList_load_row rfl 65 _ rfl w1.heap.size rfl _ _ (0, 0) _ HT6.out Tryz.underlying65 rfl (by rw [HS9.out]; exact nre_size) ?_) | fail)
 refine HWC.out.mono ?_
 rintro x w7 ⟨rfl, hb7⟩
 have HB7 : Hid (Below w.heap.size w w7) := Lib.hid (HB6.out.trans (hb7.mono HB6.out.size))
 clear hb7
 go_wp2_with fail
 refine (HPL.out w7).mono ?_
 rintro x w8 ⟨rfl, rfl⟩
 go_wp2
 go_ret
 exact ⟨rfl, HB7.out⟩
def BuQ (t : Nd) (w : World) (x : Ending) (w' : World) : Prop := ∃ B gb, x = .returned (.tuple #[.pointer (some ⟨gb, 0, none⟩), .nilIface]) ∧ w.heap.size ≤ B ∧ GrAt B gb t.G.1 t.G.2 w' ∧ Below w.heap.size w w'
theorem build_at (S : Nat → Prop) (w : World) (b : Nat) (t : Nd) (kv : Value) (g : Nat) (ext : Bool) (h : ReAt w b t kv g ext) (hM : t.sz ≤ 1000000) (hnn : t.nn ≤ 1100) (hok : t.Ok) (hkd : 1 ≤ t.kd) (hin : t.In w S kv) (hW : t.W + 1 ≤ 4000) :
  Calls Tryz.prog 19 #[.pointer (some ⟨b, 0, none⟩)] w (BuQ t w) := by
 have HW0 := Lib.hid (weightO_at S w b t kv g ext h hM hnn hok hkd hin)
 obtain ⟨q, hq⟩ : ∃ q : Nat, q = min (t.W + 1) 4001 := ⟨_, rfl⟩
 rw [← hq] at HW0
 have q1 : (1 : Int) ≤ (q : Int) := by omega
 have q2 : (q : Int) ≤ 4000 := by omega
 have q3 : ¬ (q : Int) = 0 := by omega
 have q4 : ((q : Int) == 0) = false := beq_eq_false_iff_ne.2 q3
 have q5 : ¬ q = 0 := by omega
 have HTR : Hid (∀ X, Below w.heap.size w X → Calls Tryz.prog 36 #[.pointer (some ⟨b, 0, none⟩)] X (ClP t X)) := Lib.hid (fun X hX => Tree_at S X b t kv g ext (blk_below h hX) hM (hin.below hX))
 have HOF : Hid (∀ X S' kv', t.In X S' kv' → Calls Tryz.prog 35 #[t.v kv'] X (OfQ t X)) := Lib.hid (fun X S' kv' hi => gof_any S' t kv' X hok (Nd.light t (by omega) hnn) hnn hi)
 clear h hM hnn hok hkd hin hW hq
 unfold BuQ
 unfold ClP at HTR
 unfold OfQ at HOF
 go_enter Tryz.func19, Tryz.ntmps19
 go_wp2_with fail
 refine HW0.out.mono ?_
 rintro x w1 ⟨rfl, hb1⟩
 have HB1 := Lib.hid hb1
 clear hb1
 go_wp2_with fail
 refine (HTR.out w1 HB1.out).mono ?_
 rintro x w2 ⟨ta, tm, tc, rfl, hi2, hb2⟩
 have HB2 : Hid (Below w.heap.size w w2) := Lib.hid (HB1.out.trans (hb2.mono HB1.out.size))
 have HOX := Lib.hid (HOF.out w2 _ _ hi2)
 clear hb2 hi2
 go_wp2_with fail
 refine HOX.out.mono ?_
 rintro x w3 ⟨gb, rfl, hg3, hb3⟩
 have HG3 := Lib.hid hg3
 have HB3 : Hid (Below w.heap.size w w3) := Lib.hid (HB2.out.trans (hb3.mono HB2.out.size))
 clear hg3 hb3
 go_wp2
 go_ret2
 exact ⟨w2.heap.size, gb, rfl, HB2.out.size, HG3.out, HB3.out⟩
end Go.Proofs.YtnecadgoiolpgaaGreatDoor
