/- A bracket of one part; Bracket over it. -/
import Derived.Test.YtopnckfmdjhbjaaDoorSePar
namespace Go.Proofs.YtopnckfmdjhbjaaDoor
open Go.RowKit

theorem row4_blk {w w' : World} {g : Nat} {p : Nat → Bool} (h : Row4 w g 0 p) (hb : w'.heap[g]? = w.heap[g]?) : Row4 w' g 0 p := by
  have k : ∀ o, w'.cell? ⟨g, o, none⟩ = w.cell? ⟨g, o, none⟩ := fun o => World.cell?_of_block hb
  exact ⟨(k _).trans h.1, (k _).trans h.2.1, (k _).trans h.2.2.1, (k _).trans h.2.2.2⟩
set_option maxRecDepth 100000 in
set_option maxHeartbeats 16000000 in
theorem bracket_one (rb cb : Nat) (s : ByteArray) (k k1 ah : Nat) (lg : Int) (p : Nat → Bool) (w : World) (h : Rdr w rb cb s k ah lg) (hlg : ¬ lg = 2) (h1 : ¬ atB s k = 94) (h2 : atB s k1 = 93)
    (hi : ∀ w', Rdr w' rb cb s k ah lg → Calls Tryd.prog 79 #[.pointer (some ⟨rb, 0, none⟩)] w' fun e w'' => e = .returned (.tuple #[SV p, .nilIface]) ∧ Mv cb s k1 w' w'') :
    Calls Tryd.prog 54 #[.pointer (some ⟨rb, 0, none⟩)] w fun e w' => e = .returned (.tuple #[SV (orP noP p), .nilIface]) ∧ Mv cb s (k1 + 1) w w' := by
  have HH := Lib.hid h
  have HI := Lib.hid hi
  have HT1 : Hid (∀ w', Cur w' cb s k → Calls Tryd.prog 78 #[.pointer (some ⟨cb, 0, none⟩), .string ⟨#[94]⟩] w' fun e w'' => e = .returned (.bool false) ∧ Mv cb s k w' w'') := Lib.hid fun w' h' => take1_no cb k s 94 w' h' (by decide) h1
  have HT2 : Hid (∀ w', Cur w' cb s k1 → Calls Tryd.prog 78 #[.pointer (some ⟨cb, 0, none⟩), .string ⟨#[93]⟩] w' fun e w'' => e = .returned (.bool true) ∧ Mv cb s (k1 + 1) w' w'') := Lib.hid fun w' h' => take1_yes cb k1 s 93 w' h' (by decide) h2
  clear h hi h1 h2
  go_enter Tryd.func54, Tryd.ntmps54
  obtain ⟨r0, r1, r2, rz⟩ := HH.out.facts
  go_wp2_with fail
  obtain ⟨W, hW⟩ : ∃ W, W = w.alloc (.cells #[.int .u64 0, .int .u64 0, .int .u64 0, .int .u64 0] 53) := ⟨_, rfl⟩
  rw [← hW]
  have HMW : Hid (Mv cb s k w W) := Lib.hid (by rw [hW]; exact Mv.below HH.out.2.1 ((Below.refl _ _).alloc (Nat.le_refl _) _))
  have HG0 : Hid (W.heap[w.heap.size]? = some (.cells #[.int .u64 0, .int .u64 0, .int .u64 0, .int .u64 0] 53)) := Lib.hid (by rw [hW]; exact alloc_last w _)
  have hsz : w.heap.size < W.heap.size := by rw [hW]; simp
  clear hW r0 r1 r2 rz
  have hcb := HH.out.lt.2
  have HR0 := Lib.hid (HH.out.mv HMW.out)
  refine (HT1.out _ HR0.out.2.1).mono ?_
  rintro e w1 ⟨rfl, hm1⟩
  have HM1 := Lib.hid hm1
  have HR1 := Lib.hid (HR0.out.mv hm1)
  obtain ⟨a10, a11, a12, a1z⟩ := HR1.out.facts
  clear hm1
  go_wp2
  refine wp_loop_rounds 2 ?_
  rw [rounds_succ]
  go_wp2_with fail
  obtain ⟨w2, hV⟩ : ∃ V, V = w1.alloc (.cells #[.int .u64 0, .int .u64 0, .int .u64 0, .int .u64 0] 53) := ⟨_, rfl⟩
  rw [← hV]
  have HB2 : Hid (Mv cb s k w1 w2) := Lib.hid (by rw [hV]; exact Mv.below HR1.out.2.1 ((Below.refl _ _).alloc (Nat.le_refl _) _))
  have HS2 : Hid (w2.heap[w1.heap.size]? = some (.cells #[.int .u64 (sw noP 0 : Nat), .int .u64 (sw noP 1 : Nat), .int .u64 (sw noP 2 : Nat), .int .u64 (sw noP 3 : Nat)] 53)) := Lib.hid (by rw [hV, item_no.1, item_no.2.1, item_no.2.2.1, item_no.2.2.2]; exact alloc_last w1 _)
  have hz2 : w1.heap.size < w2.heap.size := by rw [hV]; simp
  have hc1 := HR1.out.lt.2
  have hr1 := HR1.out.lt.1
  clear hV
  have HR2 := Lib.hid (HR1.out.mv HB2.out)
  refine (HI.out _ HR2.out).mono ?_
  rintro e w3 ⟨rfl, hm3⟩
  have HB3 := Lib.hid (HB2.out.trans hm3)
  have HR3 := Lib.hid (HR1.out.mv HB3.out)
  have HS3 : Hid (w3.heap[w1.heap.size]? = some (.cells #[.int .u64 (sw noP 0 : Nat), .int .u64 (sw noP 1 : Nat), .int .u64 (sw noP 2 : Nat), .int .u64 (sw noP 3 : Nat)] 53)) := Lib.hid ((hm3.2.2 _ hz2 (by omega)).trans HS2.out)
  obtain ⟨⟨s0, s1, s2, s3⟩, ⟨f0, f1, f2, f3⟩, fz⟩ := cells4 HS3.out
  clear hm3
  unfold SV
  go_wp2_with fail
  have HU := Lib.hid (unionL (w3.alloc (.cells #[.int .u64 (sw p 0 : Nat), .int .u64 (sw p 1 : Nat), .int .u64 (sw p 2 : Nat), .int .u64 (sw p 3 : Nat)] 53)) noP p 53)
  simp only [World.size_alloc] at HU
  refine HU.out.mono ?_
  rintro e w5 ⟨rfl, hb5⟩
  have HL5 : Hid (Below w3.heap.size w3 w5) := Lib.hid (((Below.refl _ _).alloc (Nat.le_refl _) _).trans (hb5.mono (Nat.le_succ _)))
  have HB5 := Lib.hid (HB3.out.trans (Mv.below HR3.out.2.1 HL5.out))
  have HS5 : Hid (w5.heap[w1.heap.size]? = some (.cells #[.int .u64 (sw noP 0 : Nat), .int .u64 (sw noP 1 : Nat), .int .u64 (sw noP 2 : Nat), .int .u64 (sw noP 3 : Nat)] 53)) := Lib.hid ((HL5.out.block _ fz).trans HS3.out)
  obtain ⟨⟨t0, t1, t2, t3⟩, ⟨u0, u1, u2, u3⟩, uz⟩ := cells4 HS5.out
  clear hb5 HU
  unfold SV
  go_wp2_with fail
  obtain ⟨w6, hV⟩ : ∃ V, V = ((((w5.setCell ⟨w1.heap.size, 0, none⟩ (.int .u64 (sw (orP noP p) 0 : Nat))).setCell ⟨w1.heap.size, 1, none⟩ (.int .u64 (sw (orP noP p) 1 : Nat))).setCell ⟨w1.heap.size, 2, none⟩ (.int .u64 (sw (orP noP p) 2 : Nat))).setCell ⟨w1.heap.size, 3, none⟩ (.int .u64 (sw (orP noP p) 3 : Nat))) := ⟨_, rfl⟩
  rw [← hV]
  have HB6 : Hid (Mv cb s k1 w1 w6) := Lib.hid (by rw [hV]; exact (Mv.setOther (Mv.setOther (Mv.setOther (Mv.setOther HB5.out w1.heap.size 0 _ (Nat.le_refl _) hc1) w1.heap.size 1 _ (Nat.le_refl _) hc1) w1.heap.size 2 _ (Nat.le_refl _) hc1) w1.heap.size 3 _ (Nat.le_refl _) hc1))
  have hz6 : w1.heap.size < w6.heap.size := by rw [hV]; simpa using uz
  have HS6 : Hid (Row4 w6 w1.heap.size 0 (orP noP p)) := Lib.hid (by rw [hV]; exact row4_put _ ⟨t0, t1, t2, t3⟩)
  clear hV
  have HR6 := Lib.hid (HR1.out.mv HB6.out)
  obtain ⟨a60, a61, a62, a6z⟩ := HR6.out.facts
  go_wp2_with fail
  rw [rounds_succ]
  go_wp2_with fail
  refine (HT2.out _ HR6.out.2.1).mono ?_
  rintro e w7 ⟨rfl, hm7⟩
  have HB7 := Lib.hid (HB6.out.trans hm7)
  have HS7 : Hid (Row4 w7 w1.heap.size 0 (orP noP p)) := Lib.hid (row4_blk HS6.out (hm7.2.2 w1.heap.size hz6 (by omega)))
  obtain ⟨x0, x1', x2', x3'⟩ := HS7.out
  have x1 : w7.cell? ⟨w1.heap.size, 1, none⟩ = some (.int .u64 (sw (orP noP p) 1 : Nat)) := x1'
  have x2 : w7.cell? ⟨w1.heap.size, 2, none⟩ = some (.int .u64 (sw (orP noP p) 2 : Nat)) := x2'
  have x3 : w7.cell? ⟨w1.heap.size, 3, none⟩ = some (.int .u64 (sw (orP noP p) 3 : Nat)) := x3'
  have hg := ((HM1.out.trans HB7.out).2.2 w.heap.size hsz (by omega)).trans HG0.out
  obtain ⟨⟨c0, c1, c2, c3⟩, ⟨g0, g1, g2, g3⟩, hgz⟩ := cells4 hg
  clear hm7 hg x1' x2' x3' a60 a61 a62 a6z t0 t1 t2 t3 u0 u1 u2 u3 s0 s1 s2 s3 f0 f1 f2 f3 a10 a11 a12 a1z
  go_wp2
  exact bodyPost_ret (by simp [results, Tryd.results54, go_sem, c0, c1, c2, c3]; rfl) rfl ⟨rfl, (Mv.setOther (Mv.setOther (Mv.setOther (Mv.setOther (HMW.out.trans (HM1.out.trans HB7.out)) w.heap.size 0 _ (Nat.le_refl _) hcb) w.heap.size 1 _ (Nat.le_refl _) hcb) w.heap.size 2 _ (Nat.le_refl _) hcb) w.heap.size 3 _ (Nat.le_refl _) hcb)⟩
end Go.Proofs.YtopnckfmdjhbjaaDoor
