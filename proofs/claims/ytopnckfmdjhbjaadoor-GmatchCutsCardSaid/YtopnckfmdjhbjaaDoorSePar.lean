/- A part of a bracket: one byte; a range; a class (gen_part.py). -/
import Derived.Test.YtopnckfmdjhbjaaDoorSeItm
namespace Go.Proofs.YtopnckfmdjhbjaaDoor
open Go.RowKit

theorem Mv.allo {w w' : World} {b k : Nat} {s : ByteArray} (h : Mv b s k w w') (o : Obj) : Mv b s k w (w'.alloc o) :=
  h.trans (Mv.below h.cur ((Below.refl _ _).alloc (Nat.le_refl _) _))
theorem cells4 {w : World} {g : Nat} {t : TypeId} {a0 a1 a2 a3 : Value} (h : w.heap[g]? = some (.cells #[a0, a1, a2, a3] t)) :
    (w.cell? ⟨g, 0, none⟩ = some a0 ∧ w.cell? ⟨g, 1, none⟩ = some a1 ∧ w.cell? ⟨g, 2, none⟩ = some a2 ∧ w.cell? ⟨g, 3, none⟩ = some a3) ∧
    (w.frozen? ⟨g, 0, none⟩ = false ∧ w.frozen? ⟨g, 1, none⟩ = false ∧ w.frozen? ⟨g, 2, none⟩ = false ∧ w.frozen? ⟨g, 3, none⟩ = false) ∧ g < w.heap.size := by
  refine ⟨⟨by simp [World.cell?, h], by simp [World.cell?, h], by simp [World.cell?, h], by simp [World.cell?, h]⟩,
    ⟨by simp [World.frozen?, h], by simp [World.frozen?, h], by simp [World.frozen?, h], by simp [World.frozen?, h]⟩, ?_⟩
  rcases Nat.lt_or_ge g w.heap.size with h' | h'
  · exact h'
  · rw [Array.getElem?_eq_none h'] at h; cases h

set_option maxRecDepth 100000 in
set_option maxHeartbeats 8000000 in
theorem part_one (rb cb : Nat) (s : ByteArray) (k ah k1 pl c : Nat) (lg : Int) (w : World) (h : Rdr w rb cb s k ah lg) (hc : c < 256)
    (hi : ∀ w', Rdr w' rb cb s k ah lg → Calls Tryd.prog 95 #[.pointer (some ⟨rb, 0, none⟩)] w' fun e w'' => e = .returned (.tuple #[IV pl false noP c, .nilIface]) ∧ Mv cb s k1 w' w'')
    (hd : ∀ w', Rdr w' rb cb s k1 ah lg → Calls Tryd.prog 96 #[.pointer (some ⟨rb, 0, none⟩)] w' fun e w'' => e = .returned (.bool false) ∧ Mv cb s k1 w' w'') :
    Calls Tryd.prog 79 #[.pointer (some ⟨rb, 0, none⟩)] w fun e w' => e = .returned (.tuple #[SV (rng c c), .nilIface]) ∧ Mv cb s k1 w w' := by
  have HH := Lib.hid h
  have HI := Lib.hid hi
  have HD := Lib.hid hd
  have HX : ∀ w, Hid (Calls Tryd.prog 97 #[.int .u8 c, .int .u8 c] w fun e w' => e = .returned (SV (rng c c)) ∧ Below w.heap.size w w') := fun w => Lib.hid (range_any c c hc hc w)
  clear h hi hd
  go_enter Tryd.func79, Tryd.ntmps79
  go_wp2_with fail
  obtain ⟨W, hW⟩ : ∃ W, W = w.alloc (.cells #[.int .u64 0, .int .u64 0, .int .u64 0, .int .u64 0] 53) := ⟨_, rfl⟩
  rw [← hW]
  have HMW : Hid (Mv cb s k w W) := Lib.hid (by rw [hW]; exact Mv.below HH.out.2.1 ((Below.refl _ _).alloc (Nat.le_refl _) _))
  have HG0 : Hid (W.heap[w.heap.size]? = some (.cells #[.int .u64 0, .int .u64 0, .int .u64 0, .int .u64 0] 53)) := Lib.hid (by rw [hW]; exact alloc_last w _)
  have hsz : w.heap.size < W.heap.size := by rw [hW]; simp
  clear hW
  have hcb := HH.out.lt.2
  have HR0 := Lib.hid (HH.out.mv HMW.out)
  have HM0 := Lib.hid (Mv.refl HR0.out.2.1)
  refine (HI.out _ HR0.out).mono ?_
  rintro e w1 ⟨rfl, hm1⟩
  have HM1 := Lib.hid (HM0.out.trans hm1)
  have HR1 := Lib.hid (HR0.out.mv HM1.out)
  obtain ⟨a10, a11, a12, a1z⟩ := HR1.out.facts
  clear hm1
  unfold IV
  go_wp2_with fail
  obtain ⟨w2, hV⟩ : ∃ V, V = w1.alloc (.cells #[.int .i64 pl, .bool false, .int .u64 (sw noP 0 : Nat), .int .u64 (sw noP 1 : Nat), .int .u64 (sw noP 2 : Nat), .int .u64 (sw noP 3 : Nat), .int .u8 c] 139) := ⟨_, rfl⟩
  rw [← hV]
  have HA2 := Lib.hid (show Mv cb s _ w1 w2 by rw [hV]; exact Mv.below HR1.out.2.1 ((Below.refl _ _).alloc (Nat.le_refl _) _))
  have HM2 := Lib.hid (HM1.out.trans HA2.out)
  have HBA : Hid (w2.heap[w1.heap.size]? = some (.cells #[.int .i64 pl, .bool false, .int .u64 (sw noP 0 : Nat), .int .u64 (sw noP 1 : Nat), .int .u64 (sw noP 2 : Nat), .int .u64 (sw noP 3 : Nat), .int .u8 c] 139)) := Lib.hid (by rw [hV]; exact alloc_last _ _)
  have hzA : w1.heap.size < w2.heap.size := by rw [hV]; simp
  have hWA : cb < w1.heap.size := HR1.out.lt.2
  clear hV
  have HR2 := Lib.hid (HR0.out.mv HM2.out)
  obtain ⟨a20, a21, a22, a2z⟩ := HR2.out.facts
  have HN2 := Lib.hid (Mv.refl HR2.out.2.1)
  refine (HD.out _ HR2.out).mono ?_
  rintro e w3 ⟨rfl, hm3⟩
  have HM3 := Lib.hid (HM2.out.trans hm3)
  have HR3 := Lib.hid (HR0.out.mv HM3.out)
  have HN3 := Lib.hid (HN2.out.trans hm3)
  obtain ⟨a30, a31, a32, a3z⟩ := HR3.out.facts
  clear hm3
  have hbA := (HN3.out.2.2 w1.heap.size hzA (by omega)).trans HBA.out
  obtain ⟨⟨p0, p1, p2, p3, p4, p5, p6⟩, ⟨pg0, pg1, pg2, pg3, pg4, pg5, pg6⟩, pz⟩ := cells7 hbA
  clear hbA
  go_wp2_with fail
  refine (HX _).out.mono ?_
  rintro e w4 ⟨rfl, hb4⟩
  have HM4 := Lib.hid (HM3.out.trans (Mv.below HR3.out.2.1 hb4))
  clear hb4
  have hg := (HM4.out.2.2 w.heap.size hsz (by omega)).trans HG0.out
  obtain ⟨⟨c0, c1, c2, c3⟩, ⟨g0, g1, g2, g3⟩, hgz⟩ := cells4 hg
  clear hg
  unfold SV
  go_wp2
  exact bodyPost_ret (by simp [results, Tryd.results79, go_sem, c0, c1, c2, c3]; rfl) rfl ⟨rfl, (Mv.setOther (Mv.setOther (Mv.setOther (Mv.setOther (HMW.out.trans HM4.out) w.heap.size 0 _ (Nat.le_refl _) hcb) w.heap.size 1 _ (Nat.le_refl _) hcb) w.heap.size 2 _ (Nat.le_refl _) hcb) w.heap.size 3 _ (Nat.le_refl _) hcb)⟩

set_option maxRecDepth 100000 in
set_option maxHeartbeats 8000000 in
theorem part_range (rb cb : Nat) (s : ByteArray) (k ah k1 k2 pl c pl2 d : Nat) (lg : Int) (w : World) (h : Rdr w rb cb s k ah lg) (hc : c < 256) (hd256 : d < 256) (hcd : c ≤ d)
    (hi : ∀ w', Rdr w' rb cb s k ah lg → Calls Tryd.prog 95 #[.pointer (some ⟨rb, 0, none⟩)] w' fun e w'' => e = .returned (.tuple #[IV pl false noP c, .nilIface]) ∧ Mv cb s k1 w' w'')
    (hd : ∀ w', Rdr w' rb cb s k1 ah lg → Calls Tryd.prog 96 #[.pointer (some ⟨rb, 0, none⟩)] w' fun e w'' => e = .returned (.bool true) ∧ Mv cb s (k1 + 1) w' w'')
    (hj : ∀ w', Rdr w' rb cb s (k1 + 1) ah lg → Calls Tryd.prog 95 #[.pointer (some ⟨rb, 0, none⟩)] w' fun e w'' => e = .returned (.tuple #[IV pl2 false noP d, .nilIface]) ∧ Mv cb s k2 w' w'') :
    Calls Tryd.prog 79 #[.pointer (some ⟨rb, 0, none⟩)] w fun e w' => e = .returned (.tuple #[SV (rng c d), .nilIface]) ∧ Mv cb s k2 w w' := by
  have HH := Lib.hid h
  have HI := Lib.hid hi
  have HD := Lib.hid hd
  have HJ := Lib.hid hj
  have HX : ∀ w, Hid (Calls Tryd.prog 97 #[.int .u8 c, .int .u8 d] w fun e w' => e = .returned (SV (rng c d)) ∧ Below w.heap.size w w') := fun w => Lib.hid (range_any c d hc hd256 w)
  clear h hi hd hj
  have hcdI : (c : Int) ≤ d := by omega
  go_enter Tryd.func79, Tryd.ntmps79
  go_wp2_with fail
  obtain ⟨W, hW⟩ : ∃ W, W = w.alloc (.cells #[.int .u64 0, .int .u64 0, .int .u64 0, .int .u64 0] 53) := ⟨_, rfl⟩
  rw [← hW]
  have HMW : Hid (Mv cb s k w W) := Lib.hid (by rw [hW]; exact Mv.below HH.out.2.1 ((Below.refl _ _).alloc (Nat.le_refl _) _))
  have HG0 : Hid (W.heap[w.heap.size]? = some (.cells #[.int .u64 0, .int .u64 0, .int .u64 0, .int .u64 0] 53)) := Lib.hid (by rw [hW]; exact alloc_last w _)
  have hsz : w.heap.size < W.heap.size := by rw [hW]; simp
  clear hW
  have hcb := HH.out.lt.2
  have HR0 := Lib.hid (HH.out.mv HMW.out)
  have HM0 := Lib.hid (Mv.refl HR0.out.2.1)
  refine (HI.out _ HR0.out).mono ?_
  rintro e w1 ⟨rfl, hm1⟩
  have HM1 := Lib.hid (HM0.out.trans hm1)
  have HR1 := Lib.hid (HR0.out.mv HM1.out)
  obtain ⟨a10, a11, a12, a1z⟩ := HR1.out.facts
  clear hm1
  unfold IV
  go_wp2_with fail
  obtain ⟨w2, hV⟩ : ∃ V, V = w1.alloc (.cells #[.int .i64 pl, .bool false, .int .u64 (sw noP 0 : Nat), .int .u64 (sw noP 1 : Nat), .int .u64 (sw noP 2 : Nat), .int .u64 (sw noP 3 : Nat), .int .u8 c] 139) := ⟨_, rfl⟩
  rw [← hV]
  have HA2 := Lib.hid (show Mv cb s _ w1 w2 by rw [hV]; exact Mv.below HR1.out.2.1 ((Below.refl _ _).alloc (Nat.le_refl _) _))
  have HM2 := Lib.hid (HM1.out.trans HA2.out)
  have HBA : Hid (w2.heap[w1.heap.size]? = some (.cells #[.int .i64 pl, .bool false, .int .u64 (sw noP 0 : Nat), .int .u64 (sw noP 1 : Nat), .int .u64 (sw noP 2 : Nat), .int .u64 (sw noP 3 : Nat), .int .u8 c] 139)) := Lib.hid (by rw [hV]; exact alloc_last _ _)
  have hzA : w1.heap.size < w2.heap.size := by rw [hV]; simp
  have hWA : cb < w1.heap.size := HR1.out.lt.2
  clear hV
  have HR2 := Lib.hid (HR0.out.mv HM2.out)
  obtain ⟨a20, a21, a22, a2z⟩ := HR2.out.facts
  have HN2 := Lib.hid (Mv.refl HR2.out.2.1)
  refine (HD.out _ HR2.out).mono ?_
  rintro e w3 ⟨rfl, hm3⟩
  have HM3 := Lib.hid (HM2.out.trans hm3)
  have HR3 := Lib.hid (HR0.out.mv HM3.out)
  have HN3 := Lib.hid (HN2.out.trans hm3)
  obtain ⟨a30, a31, a32, a3z⟩ := HR3.out.facts
  clear hm3
  have hbA := (HN3.out.2.2 w1.heap.size hzA (by omega)).trans HBA.out
  obtain ⟨⟨p0, p1, p2, p3, p4, p5, p6⟩, ⟨pg0, pg1, pg2, pg3, pg4, pg5, pg6⟩, pz⟩ := cells7 hbA
  clear hbA
  go_wp2_with fail
  refine (HJ.out _ HR3.out).mono ?_
  rintro e w4 ⟨rfl, hm4⟩
  have HM4 := Lib.hid (HM3.out.trans hm4)
  have HR4 := Lib.hid (HR0.out.mv HM4.out)
  have HN4 := Lib.hid (HN3.out.trans hm4)
  obtain ⟨a40, a41, a42, a4z⟩ := HR4.out.facts
  clear hm4
  have hbA := (HN4.out.2.2 w1.heap.size hzA (by omega)).trans HBA.out
  obtain ⟨⟨q0, q1, q2, q3, q4, q5, q6⟩, ⟨qg0, qg1, qg2, qg3, qg4, qg5, qg6⟩, qz⟩ := cells7 hbA
  clear hbA
  unfold IV
  go_wp2_with fail
  obtain ⟨w5, hV⟩ : ∃ V, V = w4.alloc (.cells #[.int .i64 pl2, .bool false, .int .u64 (sw noP 0 : Nat), .int .u64 (sw noP 1 : Nat), .int .u64 (sw noP 2 : Nat), .int .u64 (sw noP 3 : Nat), .int .u8 d] 139) := ⟨_, rfl⟩
  rw [← hV]
  have HA5 := Lib.hid (show Mv cb s _ w4 w5 by rw [hV]; exact Mv.below HR4.out.2.1 ((Below.refl _ _).alloc (Nat.le_refl _) _))
  have HM5 := Lib.hid (HM4.out.trans HA5.out)
  have HBB : Hid (w5.heap[w4.heap.size]? = some (.cells #[.int .i64 pl2, .bool false, .int .u64 (sw noP 0 : Nat), .int .u64 (sw noP 1 : Nat), .int .u64 (sw noP 2 : Nat), .int .u64 (sw noP 3 : Nat), .int .u8 d] 139)) := Lib.hid (by rw [hV]; exact alloc_last _ _)
  have hzB : w4.heap.size < w5.heap.size := by rw [hV]; simp
  have hWB : cb < w4.heap.size := HR4.out.lt.2
  clear hV
  have HR5 := Lib.hid (HR0.out.mv HM5.out)
  obtain ⟨a50, a51, a52, a5z⟩ := HR5.out.facts
  have HN5 := Lib.hid (HN4.out.trans HA5.out)
  have HO5 := Lib.hid (Mv.refl HR5.out.2.1)
  have hbA := (HN5.out.2.2 w1.heap.size hzA (by omega)).trans HBA.out
  obtain ⟨⟨r0, r1, r2, r3, r4, r5, r6⟩, ⟨rg0, rg1, rg2, rg3, rg4, rg5, rg6⟩, rz⟩ := cells7 hbA
  clear hbA
  have hbB := (HO5.out.2.2 w4.heap.size hzB (by omega)).trans HBB.out
  obtain ⟨⟨t0, t1, t2, t3, t4, t5, t6⟩, ⟨tg0, tg1, tg2, tg3, tg4, tg5, tg6⟩, tz⟩ := cells7 hbB
  clear hbB
  go_wp2_with fail
  refine (HX _).out.mono ?_
  rintro e w6 ⟨rfl, hb6⟩
  have HM6 := Lib.hid (HM5.out.trans (Mv.below HR5.out.2.1 hb6))
  clear hb6
  have hg := (HM6.out.2.2 w.heap.size hsz (by omega)).trans HG0.out
  obtain ⟨⟨c0, c1, c2, c3⟩, ⟨g0, g1, g2, g3⟩, hgz⟩ := cells4 hg
  clear hg
  unfold SV
  go_wp2
  exact bodyPost_ret (by simp [results, Tryd.results79, go_sem, c0, c1, c2, c3]; rfl) rfl ⟨rfl, (Mv.setOther (Mv.setOther (Mv.setOther (Mv.setOther (HMW.out.trans HM6.out) w.heap.size 0 _ (Nat.le_refl _) hcb) w.heap.size 1 _ (Nat.le_refl _) hcb) w.heap.size 2 _ (Nat.le_refl _) hcb) w.heap.size 3 _ (Nat.le_refl _) hcb)⟩

set_option maxRecDepth 100000 in
set_option maxHeartbeats 8000000 in
theorem part_cls (rb cb : Nat) (s : ByteArray) (k ah k1 pl : Nat) (lg : Int) (w : World) (h : Rdr w rb cb s k ah lg) (p : Nat → Bool)
    (hi : ∀ w', Rdr w' rb cb s k ah lg → Calls Tryd.prog 95 #[.pointer (some ⟨rb, 0, none⟩)] w' fun e w'' => e = .returned (.tuple #[IV pl true p 0, .nilIface]) ∧ Mv cb s k1 w' w'') :
    Calls Tryd.prog 79 #[.pointer (some ⟨rb, 0, none⟩)] w fun e w' => e = .returned (.tuple #[SV p, .nilIface]) ∧ Mv cb s k1 w w' := by
  have HH := Lib.hid h
  have HI := Lib.hid hi
  clear h hi
  go_enter Tryd.func79, Tryd.ntmps79
  go_wp2_with fail
  obtain ⟨W, hW⟩ : ∃ W, W = w.alloc (.cells #[.int .u64 0, .int .u64 0, .int .u64 0, .int .u64 0] 53) := ⟨_, rfl⟩
  rw [← hW]
  have HMW : Hid (Mv cb s k w W) := Lib.hid (by rw [hW]; exact Mv.below HH.out.2.1 ((Below.refl _ _).alloc (Nat.le_refl _) _))
  have HG0 : Hid (W.heap[w.heap.size]? = some (.cells #[.int .u64 0, .int .u64 0, .int .u64 0, .int .u64 0] 53)) := Lib.hid (by rw [hW]; exact alloc_last w _)
  have hsz : w.heap.size < W.heap.size := by rw [hW]; simp
  clear hW
  have hcb := HH.out.lt.2
  have HR0 := Lib.hid (HH.out.mv HMW.out)
  have HM0 := Lib.hid (Mv.refl HR0.out.2.1)
  refine (HI.out _ HR0.out).mono ?_
  rintro e w1 ⟨rfl, hm1⟩
  have HM1 := Lib.hid (HM0.out.trans hm1)
  have HR1 := Lib.hid (HR0.out.mv HM1.out)
  obtain ⟨a10, a11, a12, a1z⟩ := HR1.out.facts
  clear hm1
  unfold IV
  have hg := (HM1.out.2.2 w.heap.size hsz (by omega)).trans HG0.out
  obtain ⟨⟨c0, c1, c2, c3⟩, ⟨g0, g1, g2, g3⟩, hgz⟩ := cells4 hg
  clear hg
  go_wp2
  exact bodyPost_ret (by simp [results, Tryd.results79, go_sem, World.cell?_alloc_lt, hgz, c0, c1, c2, c3]; rfl) rfl ⟨rfl, Mv.allo (Mv.setOther (Mv.setOther (Mv.setOther (Mv.setOther (HMW.out.trans HM1.out) w.heap.size 0 _ (Nat.le_refl _) hcb) w.heap.size 1 _ (Nat.le_refl _) hcb) w.heap.size 2 _ (Nat.le_refl _) hcb) w.heap.size 3 _ (Nat.le_refl _) hcb) _⟩
end Go.Proofs.YtopnckfmdjhbjaaDoor
