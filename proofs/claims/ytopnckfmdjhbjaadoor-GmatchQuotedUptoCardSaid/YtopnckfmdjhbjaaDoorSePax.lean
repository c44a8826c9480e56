/- A part of a bracket that is wrong (gen_pax.py). -/
import Derived.Test.YtopnckfmdjhbjaaDoorSeItx
import Derived.Test.YtopnckfmdjhbjaaDoorSePar
namespace Go.Proofs.YtopnckfmdjhbjaaDoor
open Go.RowKit

theorem ErrS.iface {w : World} {B : Nat} {e : Nat → Addr} {lg : Int} {c : Nat} {p : Int} {v : Value} (h : ErrS w B e lg c p v) : ∃ k, v = .iface 107 (.pointer (some ⟨k, 0, none⟩)) := by
  obtain ⟨k, j, rfl, _⟩ := h
  exact ⟨k, rfl⟩

set_option maxRecDepth 100000 in
set_option maxHeartbeats 8000000 in
theorem part_bad1 (e : Nat → Addr) (rb cb : Nat) (s : ByteArray) (k ah ps : Nat) (lg : Int) (w : World) (he : Es w cb e) (h : Rdr w rb cb s k ah lg) (hi : ∀ w', Rdr w' rb cb s k ah lg → Es w' cb e → Calls Tryd.prog 95 #[.pointer (some ⟨rb, 0, none⟩)] w' fun x w'' => ∃ v k', x = .returned (.tuple #[IV 0 false noP 0, v]) ∧ Mv cb s k' w' w'' ∧ ErrS w'' (w'.heap.size + 1) e lg 8 (ps : Nat) v) :
    Calls Tryd.prog 79 #[.pointer (some ⟨rb, 0, none⟩)] w fun x w' => ∃ v k', x = .returned (.tuple #[SV noP, v]) ∧ Mv cb s k' w w' ∧ ErrS w' (w.heap.size + 1) e lg 8 (ps : Nat) v := by
  have HH := Lib.hid h
  have HE := Lib.hid he
  have HI := Lib.hid hi
  clear h he hi
  go_enter Tryd.func79, Tryd.ntmps79
  go_wp2_with fail
  obtain ⟨W, hW⟩ : ∃ W, W = w.alloc (.cells #[.int .u64 0, .int .u64 0, .int .u64 0, .int .u64 0] 53) := ⟨_, rfl⟩
  rw [← hW]
  have HMW : Hid (Mv cb s k w W) := Lib.hid (by rw [hW]; exact Mv.below HH.out.2.1 ((Below.refl _ _).alloc (Nat.le_refl _) _))
  have HG0 : Hid (W.heap[w.heap.size]? = some (.cells #[.int .u64 0, .int .u64 0, .int .u64 0, .int .u64 0] 53)) := Lib.hid (by rw [hW]; exact alloc_last w _)
  have hsz : w.heap.size < W.heap.size := by rw [hW]; simp
  clear hW
  have hcb := HH.out.lt.2
  have HR0 := Lib.hid (HH.out.mv HMW.out)
  have HM0 := Lib.hid (Mv.refl HR0.out.2.1)
  have HE0 := Lib.hid (HE.out.below HMW.out.1)
  refine (HI.out _ HR0.out HE0.out).mono ?_
  rintro e' w1 ⟨v, k', rfl, hm1, her⟩
  have HM1 := Lib.hid (HM0.out.trans hm1)
  have HR1 := Lib.hid (HR0.out.mv HM1.out)
  obtain ⟨a10, a11, a12, a1z⟩ := HR1.out.facts
  have hsz1 : w.heap.size < w1.heap.size := Nat.lt_of_lt_of_le hsz HM1.out.1.size
  clear hm1
  have HER := Lib.hid her
  obtain ⟨kk, rfl⟩ := her.iface
  clear her
  unfold IV
  have hg := (HM1.out.2.2 w.heap.size hsz (by omega)).trans HG0.out
  obtain ⟨⟨c0, c1, c2, c3⟩, ⟨g0, g1, g2, g3⟩, hgz⟩ := cells4 hg
  clear hg
  go_wp2
  refine bodyPost_ret (by simp [results, Tryd.results79, go_sem, c0, c1, c2, c3, hgz]; rfl) rfl ⟨_, _, by unfold SV; rw [item_no.1, item_no.2.1, item_no.2.2.1, item_no.2.2.2], (Mv.alo (Mv.setOther (Mv.setOther (Mv.setOther (Mv.setOther (HMW.out.trans HM1.out) w.heap.size 0 _ (Nat.le_refl _) hcb) w.heap.size 1 _ (Nat.le_refl _) hcb) w.heap.size 2 _ (Nat.le_refl _) hcb) w.heap.size 3 _ (Nat.le_refl _) hcb) _), ?_⟩
  exact (ErrS.below (ErrS.set (ErrS.set (ErrS.set (ErrS.set (HER.out.lower (by omega)) w.heap.size 0 _ (by omega)) w.heap.size 1 _ (by omega)) w.heap.size 2 _ (by omega)) w.heap.size 3 _ (by omega)) ((Below.refl _ _).alloc (Nat.le_refl _) _))

set_option maxRecDepth 100000 in
set_option maxHeartbeats 8000000 in
theorem part_bad2 (e : Nat → Addr) (rb cb : Nat) (s : ByteArray) (k ah k1 pl c ps : Nat) (lg : Int) (w : World) (he : Es w cb e) (h : Rdr w rb cb s k ah lg) (hi : ∀ w', Rdr w' rb cb s k ah lg → Es w' cb e → Calls Tryd.prog 95 #[.pointer (some ⟨rb, 0, none⟩)] w' fun e w'' => e = .returned (.tuple #[IV pl false noP c, .nilIface]) ∧ Mv cb s k1 w' w'')
    (hd : ∀ w', Rdr w' rb cb s k1 ah lg → Calls Tryd.prog 96 #[.pointer (some ⟨rb, 0, none⟩)] w' fun e w'' => e = .returned (.bool true) ∧ Mv cb s (k1 + 1) w' w'')
    (hj : ∀ w', Rdr w' rb cb s (k1 + 1) ah lg → Es w' cb e → Calls Tryd.prog 95 #[.pointer (some ⟨rb, 0, none⟩)] w' fun x w'' => ∃ v k', x = .returned (.tuple #[IV 0 false noP 0, v]) ∧ Mv cb s k' w' w'' ∧ ErrS w'' (w'.heap.size + 1) e lg 8 (ps : Nat) v) :
    Calls Tryd.prog 79 #[.pointer (some ⟨rb, 0, none⟩)] w fun x w' => ∃ v k', x = .returned (.tuple #[SV noP, v]) ∧ Mv cb s k' w w' ∧ ErrS w' (w.heap.size + 1) e lg 8 (ps : Nat) v := by
  have HH := Lib.hid h
  have HE := Lib.hid he
  have HI := Lib.hid hi
  clear h he hi
  have HD := Lib.hid hd
  have HJ := Lib.hid hj
  clear hd hj
  go_enter Tryd.func79, Tryd.ntmps79
  go_wp2_with fail
  obtain ⟨W, hW⟩ : ∃ W, W = w.alloc (.cells #[.int .u64 0, .int .u64 0, .int .u64 0, .int .u64 0] 53) := ⟨_, rfl⟩
  rw [← hW]
  have HMW : Hid (Mv cb s k w W) := Lib.hid (by rw [hW]; exact Mv.below HH.out.2.1 ((Below.refl _ _).alloc (Nat.le_refl _) _))
  have HG0 : Hid (W.heap[w.heap.size]? = some (.cells #[.int .u64 0, .int .u64 0, .int .u64 0, .int .u64 0] 53)) := Lib.hid (by rw [hW]; exact alloc_last w _)
  have hsz : w.heap.size < W.heap.size := by rw [hW]; simp
  clear hW
  have hcb := HH.out.lt.2
  have HR0 := Lib.hid (HH.out.mv HMW.out)
  have HM0 := Lib.hid (Mv.refl HR0.out.2.1)
  have HE0 := Lib.hid (HE.out.below HMW.out.1)
  refine (HI.out _ HR0.out HE0.out).mono ?_
  rintro e' w1 ⟨rfl, hm1⟩
  have HM1 := Lib.hid (HM0.out.trans hm1)
  have HR1 := Lib.hid (HR0.out.mv HM1.out)
  obtain ⟨a10, a11, a12, a1z⟩ := HR1.out.facts
  have hsz1 : w.heap.size < w1.heap.size := Nat.lt_of_lt_of_le hsz HM1.out.1.size
  clear hm1
  unfold IV
  go_wp2_with fail
  obtain ⟨w2, hV⟩ : ∃ V, V = w1.alloc (.cells #[.int .i64 pl, .bool false, .int .u64 (sw noP 0 : Nat), .int .u64 (sw noP 1 : Nat), .int .u64 (sw noP 2 : Nat), .int .u64 (sw noP 3 : Nat), .int .u8 c] 139) := ⟨_, rfl⟩
  rw [← hV]
  have HA2 := Lib.hid (show Mv cb s _ w1 w2 by rw [hV]; exact Mv.below HR1.out.2.1 ((Below.refl _ _).alloc (Nat.le_refl _) _))
  have HM2 := Lib.hid (HM1.out.trans HA2.out)
  have HBA : Hid (w2.heap[w1.heap.size]? = some (.cells #[.int .i64 pl, .bool false, .int .u64 (sw noP 0 : Nat), .int .u64 (sw noP 1 : Nat), .int .u64 (sw noP 2 : Nat), .int .u64 (sw noP 3 : Nat), .int .u8 c] 139)) := Lib.hid (by rw [hV]; exact alloc_last _ _)
  have hzA : w1.heap.size < w2.heap.size := by rw [hV]; simp
  have hWA : cb < w1.heap.size := HR1.out.lt.2
  clear hV
  have HR2 := Lib.hid (HR0.out.mv HM2.out)
  have hsz2 : w.heap.size < w2.heap.size := Nat.lt_of_lt_of_le hsz HM2.out.1.size
  obtain ⟨a20, a21, a22, a2z⟩ := HR2.out.facts
  have HN2 := Lib.hid (Mv.refl HR2.out.2.1)
  refine (HD.out _ HR2.out).mono ?_
  rintro e' w3 ⟨rfl, hm3⟩
  have HM3 := Lib.hid (HM2.out.trans hm3)
  have HR3 := Lib.hid (HR0.out.mv HM3.out)
  have HN3 := Lib.hid (HN2.out.trans hm3)
  obtain ⟨a30, a31, a32, a3z⟩ := HR3.out.facts
  have hsz3 : w.heap.size < w3.heap.size := Nat.lt_of_lt_of_le hsz HM3.out.1.size
  clear hm3
  have hbA := (HN3.out.2.2 w1.heap.size hzA (by omega)).trans HBA.out
  obtain ⟨⟨p0, p1, p2, p3, p4, p5, p6⟩, ⟨pg0, pg1, pg2, pg3, pg4, pg5, pg6⟩, pz⟩ := cells7 hbA
  clear hbA
  go_wp2_with fail
  refine (HJ.out _ HR3.out (HE0.out.below HM3.out.1)).mono ?_
  rintro e' w4 ⟨v, k', rfl, hm4, her⟩
  have HM4 := Lib.hid (HM3.out.trans hm4)
  have HR4 := Lib.hid (HR0.out.mv HM4.out)
  obtain ⟨a40, a41, a42, a4z⟩ := HR4.out.facts
  have hsz4 : w.heap.size < w4.heap.size := Nat.lt_of_lt_of_le hsz HM4.out.1.size
  clear hm4
  have HER := Lib.hid her
  obtain ⟨kk, rfl⟩ := her.iface
  clear her
  unfold IV
  have hg := (HM4.out.2.2 w.heap.size hsz (by omega)).trans HG0.out
  obtain ⟨⟨c0, c1, c2, c3⟩, ⟨g0, g1, g2, g3⟩, hgz⟩ := cells4 hg
  clear hg
  go_wp2
  refine bodyPost_ret (by simp [results, Tryd.results79, go_sem, c0, c1, c2, c3, hgz]; rfl) rfl ⟨_, _, by unfold SV; rw [item_no.1, item_no.2.1, item_no.2.2.1, item_no.2.2.2], (Mv.alo (Mv.setOther (Mv.setOther (Mv.setOther (Mv.setOther (HMW.out.trans HM4.out) w.heap.size 0 _ (Nat.le_refl _) hcb) w.heap.size 1 _ (Nat.le_refl _) hcb) w.heap.size 2 _ (Nat.le_refl _) hcb) w.heap.size 3 _ (Nat.le_refl _) hcb) _), ?_⟩
  exact (ErrS.below (ErrS.set (ErrS.set (ErrS.set (ErrS.set (HER.out.lower (by omega)) w.heap.size 0 _ (by omega)) w.heap.size 1 _ (by omega)) w.heap.size 2 _ (by omega)) w.heap.size 3 _ (by omega)) ((Below.refl _ _).alloc (Nat.le_refl _) _))

set_option maxRecDepth 100000 in
set_option maxHeartbeats 8000000 in
theorem part_dcls (e : Nat → Addr) (rb cb : Nat) (s : ByteArray) (k ah k1 k2 pl c pl2 : Nat) (lg : Int) (w : World) (he : Es w cb e) (h : Rdr w rb cb s k ah lg) (p : Nat → Bool)
    (hi : ∀ w', Rdr w' rb cb s k ah lg → Es w' cb e → Calls Tryd.prog 95 #[.pointer (some ⟨rb, 0, none⟩)] w' fun e w'' => e = .returned (.tuple #[IV pl false noP c, .nilIface]) ∧ Mv cb s k1 w' w'')
    (hd : ∀ w', Rdr w' rb cb s k1 ah lg → Calls Tryd.prog 96 #[.pointer (some ⟨rb, 0, none⟩)] w' fun e w'' => e = .returned (.bool true) ∧ Mv cb s (k1 + 1) w' w'')
    (hj : ∀ w', Rdr w' rb cb s (k1 + 1) ah lg → Es w' cb e → Calls Tryd.prog 95 #[.pointer (some ⟨rb, 0, none⟩)] w' fun e w'' => e = .returned (.tuple #[IV pl2 true p 0, .nilIface]) ∧ Mv cb s k2 w' w'') :
    Calls Tryd.prog 79 #[.pointer (some ⟨rb, 0, none⟩)] w fun x w' => ∃ v k', x = .returned (.tuple #[SV noP, v]) ∧ Mv cb s k' w w' ∧ ErrS w' (w.heap.size + 1) e lg 8 (pl2 : Nat) v := by
  have HH := Lib.hid h
  have HE := Lib.hid he
  have HI := Lib.hid hi
  clear h he hi
  have HD := Lib.hid hd
  have HJ := Lib.hid hj
  clear hd hj
  go_enter Tryd.func79, Tryd.ntmps79
  go_wp2_with fail
  obtain ⟨W, hW⟩ : ∃ W, W = w.alloc (.cells #[.int .u64 0, .int .u64 0, .int .u64 0, .int .u64 0] 53) := ⟨_, rfl⟩
  rw [← hW]
  have HMW : Hid (Mv cb s k w W) := Lib.hid (by rw [hW]; exact Mv.below HH.out.2.1 ((Below.refl _ _).alloc (Nat.le_refl _) _))
  have HG0 : Hid (W.heap[w.heap.size]? = some (.cells #[.int .u64 0, .int .u64 0, .int .u64 0, .int .u64 0] 53)) := Lib.hid (by rw [hW]; exact alloc_last w _)
  have hsz : w.heap.size < W.heap.size := by rw [hW]; simp
  clear hW
  have hcb := HH.out.lt.2
  have HR0 := Lib.hid (HH.out.mv HMW.out)
  have HM0 := Lib.hid (Mv.refl HR0.out.2.1)
  have HE0 := Lib.hid (HE.out.below HMW.out.1)
  refine (HI.out _ HR0.out HE0.out).mono ?_
  rintro e' w1 ⟨rfl, hm1⟩
  have HM1 := Lib.hid (HM0.out.trans hm1)
  have HR1 := Lib.hid (HR0.out.mv HM1.out)
  obtain ⟨a10, a11, a12, a1z⟩ := HR1.out.facts
  have hsz1 : w.heap.size < w1.heap.size := Nat.lt_of_lt_of_le hsz HM1.out.1.size
  clear hm1
  unfold IV
  go_wp2_with fail
  obtain ⟨w2, hV⟩ : ∃ V, V = w1.alloc (.cells #[.int .i64 pl, .bool false, .int .u64 (sw noP 0 : Nat), .int .u64 (sw noP 1 : Nat), .int .u64 (sw noP 2 : Nat), .int .u64 (sw noP 3 : Nat), .int .u8 c] 139) := ⟨_, rfl⟩
  rw [← hV]
  have HA2 := Lib.hid (show Mv cb s _ w1 w2 by rw [hV]; exact Mv.below HR1.out.2.1 ((Below.refl _ _).alloc (Nat.le_refl _) _))
  have HM2 := Lib.hid (HM1.out.trans HA2.out)
  have HBA : Hid (w2.heap[w1.heap.size]? = some (.cells #[.int .i64 pl, .bool false, .int .u64 (sw noP 0 : Nat), .int .u64 (sw noP 1 : Nat), .int .u64 (sw noP 2 : Nat), .int .u64 (sw noP 3 : Nat), .int .u8 c] 139)) := Lib.hid (by rw [hV]; exact alloc_last _ _)
  have hzA : w1.heap.size < w2.heap.size := by rw [hV]; simp
  have hWA : cb < w1.heap.size := HR1.out.lt.2
  clear hV
  have HR2 := Lib.hid (HR0.out.mv HM2.out)
  have hsz2 : w.heap.size < w2.heap.size := Nat.lt_of_lt_of_le hsz HM2.out.1.size
  obtain ⟨a20, a21, a22, a2z⟩ := HR2.out.facts
  have HN2 := Lib.hid (Mv.refl HR2.out.2.1)
  refine (HD.out _ HR2.out).mono ?_
  rintro e' w3 ⟨rfl, hm3⟩
  have HM3 := Lib.hid (HM2.out.trans hm3)
  have HR3 := Lib.hid (HR0.out.mv HM3.out)
  have HN3 := Lib.hid (HN2.out.trans hm3)
  obtain ⟨a30, a31, a32, a3z⟩ := HR3.out.facts
  have hsz3 : w.heap.size < w3.heap.size := Nat.lt_of_lt_of_le hsz HM3.out.1.size
  clear hm3
  have hbA := (HN3.out.2.2 w1.heap.size hzA (by omega)).trans HBA.out
  obtain ⟨⟨p0, p1, p2, p3, p4, p5, p6⟩, ⟨pg0, pg1, pg2, pg3, pg4, pg5, pg6⟩, pz⟩ := cells7 hbA
  clear hbA
  go_wp2_with fail
  refine (HJ.out _ HR3.out (HE0.out.below HM3.out.1)).mono ?_
  rintro e' w4 ⟨rfl, hm4⟩
  have HM4 := Lib.hid (HM3.out.trans hm4)
  have HR4 := Lib.hid (HR0.out.mv HM4.out)
  have HN4 := Lib.hid (HN3.out.trans hm4)
  obtain ⟨a40, a41, a42, a4z⟩ := HR4.out.facts
  have hsz4 : w.heap.size < w4.heap.size := Nat.lt_of_lt_of_le hsz HM4.out.1.size
  clear hm4
  have hbA := (HN4.out.2.2 w1.heap.size hzA (by omega)).trans HBA.out
  obtain ⟨⟨q0, q1, q2, q3, q4, q5, q6⟩, ⟨qg0, qg1, qg2, qg3, qg4, qg5, qg6⟩, qz⟩ := cells7 hbA
  clear hbA
  unfold IV
  go_wp2_with fail
  obtain ⟨w5, hV⟩ : ∃ V, V = w4.alloc (.cells #[.int .i64 pl2, .bool true, .int .u64 (sw p 0 : Nat), .int .u64 (sw p 1 : Nat), .int .u64 (sw p 2 : Nat), .int .u64 (sw p 3 : Nat), .int .u8 0] 139) := ⟨_, rfl⟩
  rw [← hV]
  have HA5 := Lib.hid (show Mv cb s _ w4 w5 by rw [hV]; exact Mv.below HR4.out.2.1 ((Below.refl _ _).alloc (Nat.le_refl _) _))
  have HM5 := Lib.hid (HM4.out.trans HA5.out)
  have HBB : Hid (w5.heap[w4.heap.size]? = some (.cells #[.int .i64 pl2, .bool true, .int .u64 (sw p 0 : Nat), .int .u64 (sw p 1 : Nat), .int .u64 (sw p 2 : Nat), .int .u64 (sw p 3 : Nat), .int .u8 0] 139)) := Lib.hid (by rw [hV]; exact alloc_last _ _)
  have hzB : w4.heap.size < w5.heap.size := by rw [hV]; simp
  have hWB : cb < w4.heap.size := HR4.out.lt.2
  clear hV
  have HR5 := Lib.hid (HR0.out.mv HM5.out)
  have hsz5 : w.heap.size < w5.heap.size := Nat.lt_of_lt_of_le hsz HM5.out.1.size
  obtain ⟨a50, a51, a52, a5z⟩ := HR5.out.facts
  have HN5 := Lib.hid (HN4.out.trans HA5.out)
  have HO5 := Lib.hid (Mv.refl HR5.out.2.1)
  have hbA := (HN5.out.2.2 w1.heap.size hzA (by omega)).trans HBA.out
  obtain ⟨⟨r0, r1, r2, r3, r4, r5, r6⟩, ⟨rg0, rg1, rg2, rg3, rg4, rg5, rg6⟩, rz⟩ := cells7 hbA
  clear hbA
  have hbB := (HO5.out.2.2 w4.heap.size hzB (by omega)).trans HBB.out
  obtain ⟨⟨t0, t1, t2, t3, t4, t5, t6⟩, ⟨tg0, tg1, tg2, tg3, tg4, tg5, tg6⟩, tz⟩ := cells7 hbB
  clear hbB
  go_wp2_with fail
  refine (refuse_any rb lg e cb 8 pl2 (by decide) _ (HE0.out.below HM5.out.1) a52).mono ?_
  rintro x w6 ⟨v, rfl, her, hb⟩
  have HM6 := Lib.hid (HM5.out.trans (Mv.below HR5.out.2.1 hb))
  have HER := Lib.hid her
  have hsz6 : w.heap.size < w6.heap.size := Nat.lt_of_lt_of_le hsz HM6.out.1.size
  clear her hb
  have hg := (HM6.out.2.2 w.heap.size hsz (by omega)).trans HG0.out
  obtain ⟨⟨c0, c1, c2, c3⟩, ⟨g0, g1, g2, g3⟩, hgz⟩ := cells4 hg
  clear hg
  go_wp2
  refine bodyPost_ret (by simp [results, Tryd.results79, go_sem, c0, c1, c2, c3]; rfl) rfl ⟨_, _, by unfold SV; rw [item_no.1, item_no.2.1, item_no.2.2.1, item_no.2.2.2], (Mv.setOther (Mv.setOther (Mv.setOther (Mv.setOther (HMW.out.trans HM6.out) w.heap.size 0 _ (Nat.le_refl _) hcb) w.heap.size 1 _ (Nat.le_refl _) hcb) w.heap.size 2 _ (Nat.le_refl _) hcb) w.heap.size 3 _ (Nat.le_refl _) hcb), ?_⟩
  exact (ErrS.set (ErrS.set (ErrS.set (ErrS.set (HER.out.lower (by omega)) w.heap.size 0 _ (by omega)) w.heap.size 1 _ (by omega)) w.heap.size 2 _ (by omega)) w.heap.size 3 _ (by omega))

set_option maxRecDepth 100000 in
set_option maxHeartbeats 8000000 in
theorem part_rev (e : Nat → Addr) (rb cb : Nat) (s : ByteArray) (k ah k1 k2 pl c pl2 d : Nat) (lg : Int) (w : World) (he : Es w cb e) (h : Rdr w rb cb s k ah lg) (hcd : d < c)
    (hi : ∀ w', Rdr w' rb cb s k ah lg → Es w' cb e → Calls Tryd.prog 95 #[.pointer (some ⟨rb, 0, none⟩)] w' fun e w'' => e = .returned (.tuple #[IV pl false noP c, .nilIface]) ∧ Mv cb s k1 w' w'')
    (hd : ∀ w', Rdr w' rb cb s k1 ah lg → Calls Tryd.prog 96 #[.pointer (some ⟨rb, 0, none⟩)] w' fun e w'' => e = .returned (.bool true) ∧ Mv cb s (k1 + 1) w' w'')
    (hj : ∀ w', Rdr w' rb cb s (k1 + 1) ah lg → Es w' cb e → Calls Tryd.prog 95 #[.pointer (some ⟨rb, 0, none⟩)] w' fun e w'' => e = .returned (.tuple #[IV pl2 false noP d, .nilIface]) ∧ Mv cb s k2 w' w'') :
    Calls Tryd.prog 79 #[.pointer (some ⟨rb, 0, none⟩)] w fun x w' => ∃ v k', x = .returned (.tuple #[SV noP, v]) ∧ Mv cb s k' w w' ∧ ErrS w' (w.heap.size + 1) e lg 7 (pl : Nat) v := by
  have HH := Lib.hid h
  have HE := Lib.hid he
  have HI := Lib.hid hi
  clear h he hi
  have HD := Lib.hid hd
  have HJ := Lib.hid hj
  clear hd hj
  have hcdI : (d : Int) < c := by omega
  go_enter Tryd.func79, Tryd.ntmps79
  go_wp2_with fail
  obtain ⟨W, hW⟩ : ∃ W, W = w.alloc (.cells #[.int .u64 0, .int .u64 0, .int .u64 0, .int .u64 0] 53) := ⟨_, rfl⟩
  rw [← hW]
  have HMW : Hid (Mv cb s k w W) := Lib.hid (by rw [hW]; exact Mv.below HH.out.2.1 ((Below.refl _ _).alloc (Nat.le_refl _) _))
  have HG0 : Hid (W.heap[w.heap.size]? = some (.cells #[.int .u64 0, .int .u64 0, .int .u64 0, .int .u64 0] 53)) := Lib.hid (by rw [hW]; exact alloc_last w _)
  have hsz : w.heap.size < W.heap.size := by rw [hW]; simp
  clear hW
  have hcb := HH.out.lt.2
  have HR0 := Lib.hid (HH.out.mv HMW.out)
  have HM0 := Lib.hid (Mv.refl HR0.out.2.1)
  have HE0 := Lib.hid (HE.out.below HMW.out.1)
  refine (HI.out _ HR0.out HE0.out).mono ?_
  rintro e' w1 ⟨rfl, hm1⟩
  have HM1 := Lib.hid (HM0.out.trans hm1)
  have HR1 := Lib.hid (HR0.out.mv HM1.out)
  obtain ⟨a10, a11, a12, a1z⟩ := HR1.out.facts
  have hsz1 : w.heap.size < w1.heap.size := Nat.lt_of_lt_of_le hsz HM1.out.1.size
  clear hm1
  unfold IV
  go_wp2_with fail
  obtain ⟨w2, hV⟩ : ∃ V, V = w1.alloc (.cells #[.int .i64 pl, .bool false, .int .u64 (sw noP 0 : Nat), .int .u64 (sw noP 1 : Nat), .int .u64 (sw noP 2 : Nat), .int .u64 (sw noP 3 : Nat), .int .u8 c] 139) := ⟨_, rfl⟩
  rw [← hV]
  have HA2 := Lib.hid (show Mv cb s _ w1 w2 by rw [hV]; exact Mv.below HR1.out.2.1 ((Below.refl _ _).alloc (Nat.le_refl _) _))
  have HM2 := Lib.hid (HM1.out.trans HA2.out)
  have HBA : Hid (w2.heap[w1.heap.size]? = some (.cells #[.int .i64 pl, .bool false, .int .u64 (sw noP 0 : Nat), .int .u64 (sw noP 1 : Nat), .int .u64 (sw noP 2 : Nat), .int .u64 (sw noP 3 : Nat), .int .u8 c] 139)) := Lib.hid (by rw [hV]; exact alloc_last _ _)
  have hzA : w1.heap.size < w2.heap.size := by rw [hV]; simp
  have hWA : cb < w1.heap.size := HR1.out.lt.2
  clear hV
  have HR2 := Lib.hid (HR0.out.mv HM2.out)
  have hsz2 : w.heap.size < w2.heap.size := Nat.lt_of_lt_of_le hsz HM2.out.1.size
  obtain ⟨a20, a21, a22, a2z⟩ := HR2.out.facts
  have HN2 := Lib.hid (Mv.refl HR2.out.2.1)
  refine (HD.out _ HR2.out).mono ?_
  rintro e' w3 ⟨rfl, hm3⟩
  have HM3 := Lib.hid (HM2.out.trans hm3)
  have HR3 := Lib.hid (HR0.out.mv HM3.out)
  have HN3 := Lib.hid (HN2.out.trans hm3)
  obtain ⟨a30, a31, a32, a3z⟩ := HR3.out.facts
  have hsz3 : w.heap.size < w3.heap.size := Nat.lt_of_lt_of_le hsz HM3.out.1.size
  clear hm3
  have hbA := (HN3.out.2.2 w1.heap.size hzA (by omega)).trans HBA.out
  obtain ⟨⟨p0, p1, p2, p3, p4, p5, p6⟩, ⟨pg0, pg1, pg2, pg3, pg4, pg5, pg6⟩, pz⟩ := cells7 hbA
  clear hbA
  go_wp2_with fail
  refine (HJ.out _ HR3.out (HE0.out.below HM3.out.1)).mono ?_
  rintro e' w4 ⟨rfl, hm4⟩
  have HM4 := Lib.hid (HM3.out.trans hm4)
  have HR4 := Lib.hid (HR0.out.mv HM4.out)
  have HN4 := Lib.hid (HN3.out.trans hm4)
  obtain ⟨a40, a41, a42, a4z⟩ := HR4.out.facts
  have hsz4 : w.heap.size < w4.heap.size := Nat.lt_of_lt_of_le hsz HM4.out.1.size
  clear hm4
  have hbA := (HN4.out.2.2 w1.heap.size hzA (by omega)).trans HBA.out
  obtain ⟨⟨q0, q1, q2, q3, q4, q5, q6⟩, ⟨qg0, qg1, qg2, qg3, qg4, qg5, qg6⟩, qz⟩ := cells7 hbA
  clear hbA
  unfold IV
  go_wp2_with fail
  obtain ⟨w5, hV⟩ : ∃ V, V = w4.alloc (.cells #[.int .i64 pl2, .bool false, .int .u64 (sw noP 0 : Nat), .int .u64 (sw noP 1 : Nat), .int .u64 (sw noP 2 : Nat), .int .u64 (sw noP 3 : Nat), .int .u8 d] 139) := ⟨_, rfl⟩
  rw [← hV]
  have HA5 := Lib.hid (show Mv cb s _ w4 w5 by rw [hV]; exact Mv.below HR4.out.2.1 ((Below.refl _ _).alloc (Nat.le_refl _) _))
  have HM5 := Lib.hid (HM4.out.trans HA5.out)
  have HBB : Hid (w5.heap[w4.heap.size]? = some (.cells #[.int .i64 pl2, .bool false, .int .u64 (sw noP 0 : Nat), .int .u64 (sw noP 1 : Nat), .int .u64 (sw noP 2 : Nat), .int .u64 (sw noP 3 : Nat), .int .u8 d] 139)) := Lib.hid (by rw [hV]; exact alloc_last _ _)
  have hzB : w4.heap.size < w5.heap.size := by rw [hV]; simp
  have hWB : cb < w4.heap.size := HR4.out.lt.2
  clear hV
  have HR5 := Lib.hid (HR0.out.mv HM5.out)
  have hsz5 : w.heap.size < w5.heap.size := Nat.lt_of_lt_of_le hsz HM5.out.1.size
  obtain ⟨a50, a51, a52, a5z⟩ := HR5.out.facts
  have HN5 := Lib.hid (HN4.out.trans HA5.out)
  have HO5 := Lib.hid (Mv.refl HR5.out.2.1)
  have hbA := (HN5.out.2.2 w1.heap.size hzA (by omega)).trans HBA.out
  obtain ⟨⟨r0, r1, r2, r3, r4, r5, r6⟩, ⟨rg0, rg1, rg2, rg3, rg4, rg5, rg6⟩, rz⟩ := cells7 hbA
  clear hbA
  have hbB := (HO5.out.2.2 w4.heap.size hzB (by omega)).trans HBB.out
  obtain ⟨⟨t0, t1, t2, t3, t4, t5, t6⟩, ⟨tg0, tg1, tg2, tg3, tg4, tg5, tg6⟩, tz⟩ := cells7 hbB
  clear hbB
  go_wp2_with fail
  refine (refuse_any rb lg e cb 7 pl (by decide) _ (HE0.out.below HM5.out.1) a52).mono ?_
  rintro x w6 ⟨v, rfl, her, hb⟩
  have HM6 := Lib.hid (HM5.out.trans (Mv.below HR5.out.2.1 hb))
  have HER := Lib.hid her
  have hsz6 : w.heap.size < w6.heap.size := Nat.lt_of_lt_of_le hsz HM6.out.1.size
  clear her hb
  have hg := (HM6.out.2.2 w.heap.size hsz (by omega)).trans HG0.out
  obtain ⟨⟨c0, c1, c2, c3⟩, ⟨g0, g1, g2, g3⟩, hgz⟩ := cells4 hg
  clear hg
  go_wp2
  refine bodyPost_ret (by simp [results, Tryd.results79, go_sem, c0, c1, c2, c3]; rfl) rfl ⟨_, _, by unfold SV; rw [item_no.1, item_no.2.1, item_no.2.2.1, item_no.2.2.2], (Mv.setOther (Mv.setOther (Mv.setOther (Mv.setOther (HMW.out.trans HM6.out) w.heap.size 0 _ (Nat.le_refl _) hcb) w.heap.size 1 _ (Nat.le_refl _) hcb) w.heap.size 2 _ (Nat.le_refl _) hcb) w.heap.size 3 _ (Nat.le_refl _) hcb), ?_⟩
  exact (ErrS.set (ErrS.set (ErrS.set (ErrS.set (HER.out.lower (by omega)) w.heap.size 0 _ (by omega)) w.heap.size 1 _ (by omega)) w.heap.size 2 _ (by omega)) w.heap.size 3 _ (by omega))

set_option maxRecDepth 100000 in
set_option maxHeartbeats 8000000 in
theorem party_one (e : Nat → Addr) (rb cb : Nat) (s : ByteArray) (k ah k1 pl c : Nat) (lg : Int) (w : World) (he : Es w cb e) (h : Rdr w rb cb s k ah lg) (hc : c < 256)
    (hi : ∀ w', Rdr w' rb cb s k ah lg → Es w' cb e → Calls Tryd.prog 95 #[.pointer (some ⟨rb, 0, none⟩)] w' fun e w'' => e = .returned (.tuple #[IV pl false noP c, .nilIface]) ∧ Mv cb s k1 w' w'')
    (hd : ∀ w', Rdr w' rb cb s k1 ah lg → Calls Tryd.prog 96 #[.pointer (some ⟨rb, 0, none⟩)] w' fun e w'' => e = .returned (.bool false) ∧ Mv cb s k1 w' w'') :
    Calls Tryd.prog 79 #[.pointer (some ⟨rb, 0, none⟩)] w fun e w' => e = .returned (.tuple #[SV (rng c c), .nilIface]) ∧ Mv cb s k1 w w' := by
  have HH := Lib.hid h
  have HE := Lib.hid he
  have HI := Lib.hid hi
  clear h he hi
  have HD := Lib.hid hd
  clear hd
  have HX : ∀ w, Hid (Calls Tryd.prog 97 #[.int .u8 c, .int .u8 c] w fun e w' => e = .returned (SV (rng c c)) ∧ Below w.heap.size w w') := fun w => Lib.hid (range_any c c hc hc w)
  go_enter Tryd.func79, Tryd.ntmps79
  go_wp2_with fail
  obtain ⟨W, hW⟩ : ∃ W, W = w.alloc (.cells #[.int .u64 0, .int .u64 0, .int .u64 0, .int .u64 0] 53) := ⟨_, rfl⟩
  rw [← hW]
  have HMW : Hid (Mv cb s k w W) := Lib.hid (by rw [hW]; exact Mv.below HH.out.2.1 ((Below.refl _ _).alloc (Nat.le_refl _) _))
  have HG0 : Hid (W.heap[w.heap.size]? = some (.cells #[.int .u64 0, .int .u64 0, .int .u64 0, .int .u64 0] 53)) := Lib.hid (by rw [hW]; exact alloc_last w _)
  have hsz : w.heap.size < W.heap.size := by rw [hW]; simp
  clear hW
  have hcb := HH.out.lt.2
  have HR0 := Lib.hid (HH.out.mv HMW.out)
  have HM0 := Lib.hid (Mv.refl HR0.out.2.1)
  have HE0 := Lib.hid (HE.out.below HMW.out.1)
  refine (HI.out _ HR0.out HE0.out).mono ?_
  rintro e' w1 ⟨rfl, hm1⟩
  have HM1 := Lib.hid (HM0.out.trans hm1)
  have HR1 := Lib.hid (HR0.out.mv HM1.out)
  obtain ⟨a10, a11, a12, a1z⟩ := HR1.out.facts
  have hsz1 : w.heap.size < w1.heap.size := Nat.lt_of_lt_of_le hsz HM1.out.1.size
  clear hm1
  unfold IV
  go_wp2_with fail
  obtain ⟨w2, hV⟩ : ∃ V, V = w1.alloc (.cells #[.int .i64 pl, .bool false, .int .u64 (sw noP 0 : Nat), .int .u64 (sw noP 1 : Nat), .int .u64 (sw noP 2 : Nat), .int .u64 (sw noP 3 : Nat), .int .u8 c] 139) := ⟨_, rfl⟩
  rw [← hV]
  have HA2 := Lib.hid (show Mv cb s _ w1 w2 by rw [hV]; exact Mv.below HR1.out.2.1 ((Below.refl _ _).alloc (Nat.le_refl _) _))
  have HM2 := Lib.hid (HM1.out.trans HA2.out)
  have HBA : Hid (w2.heap[w1.heap.size]? = some (.cells #[.int .i64 pl, .bool false, .int .u64 (sw noP 0 : Nat), .int .u64 (sw noP 1 : Nat), .int .u64 (sw noP 2 : Nat), .int .u64 (sw noP 3 : Nat), .int .u8 c] 139)) := Lib.hid (by rw [hV]; exact alloc_last _ _)
  have hzA : w1.heap.size < w2.heap.size := by rw [hV]; simp
  have hWA : cb < w1.heap.size := HR1.out.lt.2
  clear hV
  have HR2 := Lib.hid (HR0.out.mv HM2.out)
  have hsz2 : w.heap.size < w2.heap.size := Nat.lt_of_lt_of_le hsz HM2.out.1.size
  obtain ⟨a20, a21, a22, a2z⟩ := HR2.out.facts
  have HN2 := Lib.hid (Mv.refl HR2.out.2.1)
  refine (HD.out _ HR2.out).mono ?_
  rintro e' w3 ⟨rfl, hm3⟩
  have HM3 := Lib.hid (HM2.out.trans hm3)
  have HR3 := Lib.hid (HR0.out.mv HM3.out)
  have HN3 := Lib.hid (HN2.out.trans hm3)
  obtain ⟨a30, a31, a32, a3z⟩ := HR3.out.facts
  have hsz3 : w.heap.size < w3.heap.size := Nat.lt_of_lt_of_le hsz HM3.out.1.size
  clear hm3
  have hbA := (HN3.out.2.2 w1.heap.size hzA (by omega)).trans HBA.out
  obtain ⟨⟨p0, p1, p2, p3, p4, p5, p6⟩, ⟨pg0, pg1, pg2, pg3, pg4, pg5, pg6⟩, pz⟩ := cells7 hbA
  clear hbA
  go_wp2_with fail
  refine (HX _).out.mono ?_
  rintro e' w4 ⟨rfl, hb4⟩
  have HM4 := Lib.hid (HM3.out.trans (Mv.below HR3.out.2.1 hb4))
  have hsz4 : w.heap.size < w4.heap.size := Nat.lt_of_lt_of_le hsz HM4.out.1.size
  clear hb4
  have hg := (HM4.out.2.2 w.heap.size hsz (by omega)).trans HG0.out
  obtain ⟨⟨c0, c1, c2, c3⟩, ⟨g0, g1, g2, g3⟩, hgz⟩ := cells4 hg
  clear hg
  unfold SV
  go_wp2
  exact bodyPost_ret (by simp [results, Tryd.results79, go_sem, c0, c1, c2, c3]; rfl) rfl ⟨rfl, (Mv.setOther (Mv.setOther (Mv.setOther (Mv.setOther (HMW.out.trans HM4.out) w.heap.size 0 _ (Nat.le_refl _) hcb) w.heap.size 1 _ (Nat.le_refl _) hcb) w.heap.size 2 _ (Nat.le_refl _) hcb) w.heap.size 3 _ (Nat.le_refl _) hcb)⟩

set_option maxRecDepth 100000 in
set_option maxHeartbeats 8000000 in
theorem party_range (e : Nat → Addr) (rb cb : Nat) (s : ByteArray) (k ah k1 k2 pl c pl2 d : Nat) (lg : Int) (w : World) (he : Es w cb e) (h : Rdr w rb cb s k ah lg) (hc : c < 256) (hd256 : d < 256) (hcd : c ≤ d)
    (hi : ∀ w', Rdr w' rb cb s k ah lg → Es w' cb e → Calls Tryd.prog 95 #[.pointer (some ⟨rb, 0, none⟩)] w' fun e w'' => e = .returned (.tuple #[IV pl false noP c, .nilIface]) ∧ Mv cb s k1 w' w'')
    (hd : ∀ w', Rdr w' rb cb s k1 ah lg → Calls Tryd.prog 96 #[.pointer (some ⟨rb, 0, none⟩)] w' fun e w'' => e = .returned (.bool true) ∧ Mv cb s (k1 + 1) w' w'')
    (hj : ∀ w', Rdr w' rb cb s (k1 + 1) ah lg → Es w' cb e → Calls Tryd.prog 95 #[.pointer (some ⟨rb, 0, none⟩)] w' fun e w'' => e = .returned (.tuple #[IV pl2 false noP d, .nilIface]) ∧ Mv cb s k2 w' w'') :
    Calls Tryd.prog 79 #[.pointer (some ⟨rb, 0, none⟩)] w fun e w' => e = .returned (.tuple #[SV (rng c d), .nilIface]) ∧ Mv cb s k2 w w' := by
  have HH := Lib.hid h
  have HE := Lib.hid he
  have HI := Lib.hid hi
  clear h he hi
  have HD := Lib.hid hd
  have HJ := Lib.hid hj
  clear hd hj
  have HX : ∀ w, Hid (Calls Tryd.prog 97 #[.int .u8 c, .int .u8 d] w fun e w' => e = .returned (SV (rng c d)) ∧ Below w.heap.size w w') := fun w => Lib.hid (range_any c d hc hd256 w)
  have hcdI : (c : Int) ≤ d := by omega
  go_enter Tryd.func79, Tryd.ntmps79
  go_wp2_with fail
  obtain ⟨W, hW⟩ : ∃ W, W = w.alloc (.cells #[.int .u64 0, .int .u64 0, .int .u64 0, .int .u64 0] 53) := ⟨_, rfl⟩
  rw [← hW]
  have HMW : Hid (Mv cb s k w W) := Lib.hid (by rw [hW]; exact Mv.below HH.out.2.1 ((Below.refl _ _).alloc (Nat.le_refl _) _))
  have HG0 : Hid (W.heap[w.heap.size]? = some (.cells #[.int .u64 0, .int .u64 0, .int .u64 0, .int .u64 0] 53)) := Lib.hid (by rw [hW]; exact alloc_last w _)
  have hsz : w.heap.size < W.heap.size := by rw [hW]; simp
  clear hW
  have hcb := HH.out.lt.2
  have HR0 := Lib.hid (HH.out.mv HMW.out)
  have HM0 := Lib.hid (Mv.refl HR0.out.2.1)
  have HE0 := Lib.hid (HE.out.below HMW.out.1)
  refine (HI.out _ HR0.out HE0.out).mono ?_
  rintro e' w1 ⟨rfl, hm1⟩
  have HM1 := Lib.hid (HM0.out.trans hm1)
  have HR1 := Lib.hid (HR0.out.mv HM1.out)
  obtain ⟨a10, a11, a12, a1z⟩ := HR1.out.facts
  have hsz1 : w.heap.size < w1.heap.size := Nat.lt_of_lt_of_le hsz HM1.out.1.size
  clear hm1
  unfold IV
  go_wp2_with fail
  obtain ⟨w2, hV⟩ : ∃ V, V = w1.alloc (.cells #[.int .i64 pl, .bool false, .int .u64 (sw noP 0 : Nat), .int .u64 (sw noP 1 : Nat), .int .u64 (sw noP 2 : Nat), .int .u64 (sw noP 3 : Nat), .int .u8 c] 139) := ⟨_, rfl⟩
  rw [← hV]
  have HA2 := Lib.hid (show Mv cb s _ w1 w2 by rw [hV]; exact Mv.below HR1.out.2.1 ((Below.refl _ _).alloc (Nat.le_refl _) _))
  have HM2 := Lib.hid (HM1.out.trans HA2.out)
  have HBA : Hid (w2.heap[w1.heap.size]? = some (.cells #[.int .i64 pl, .bool false, .int .u64 (sw noP 0 : Nat), .int .u64 (sw noP 1 : Nat), .int .u64 (sw noP 2 : Nat), .int .u64 (sw noP 3 : Nat), .int .u8 c] 139)) := Lib.hid (by rw [hV]; exact alloc_last _ _)
  have hzA : w1.heap.size < w2.heap.size := by rw [hV]; simp
  have hWA : cb < w1.heap.size := HR1.out.lt.2
  clear hV
  have HR2 := Lib.hid (HR0.out.mv HM2.out)
  have hsz2 : w.heap.size < w2.heap.size := Nat.lt_of_lt_of_le hsz HM2.out.1.size
  obtain ⟨a20, a21, a22, a2z⟩ := HR2.out.facts
  have HN2 := Lib.hid (Mv.refl HR2.out.2.1)
  refine (HD.out _ HR2.out).mono ?_
  rintro e' w3 ⟨rfl, hm3⟩
  have HM3 := Lib.hid (HM2.out.trans hm3)
  have HR3 := Lib.hid (HR0.out.mv HM3.out)
  have HN3 := Lib.hid (HN2.out.trans hm3)
  obtain ⟨a30, a31, a32, a3z⟩ := HR3.out.facts
  have hsz3 : w.heap.size < w3.heap.size := Nat.lt_of_lt_of_le hsz HM3.out.1.size
  clear hm3
  have hbA := (HN3.out.2.2 w1.heap.size hzA (by omega)).trans HBA.out
  obtain ⟨⟨p0, p1, p2, p3, p4, p5, p6⟩, ⟨pg0, pg1, pg2, pg3, pg4, pg5, pg6⟩, pz⟩ := cells7 hbA
  clear hbA
  go_wp2_with fail
  refine (HJ.out _ HR3.out (HE0.out.below HM3.out.1)).mono ?_
  rintro e' w4 ⟨rfl, hm4⟩
  have HM4 := Lib.hid (HM3.out.trans hm4)
  have HR4 := Lib.hid (HR0.out.mv HM4.out)
  have HN4 := Lib.hid (HN3.out.trans hm4)
  obtain ⟨a40, a41, a42, a4z⟩ := HR4.out.facts
  have hsz4 : w.heap.size < w4.heap.size := Nat.lt_of_lt_of_le hsz HM4.out.1.size
  clear hm4
  have hbA := (HN4.out.2.2 w1.heap.size hzA (by omega)).trans HBA.out
  obtain ⟨⟨q0, q1, q2, q3, q4, q5, q6⟩, ⟨qg0, qg1, qg2, qg3, qg4, qg5, qg6⟩, qz⟩ := cells7 hbA
  clear hbA
  unfold IV
  go_wp2_with fail
  obtain ⟨w5, hV⟩ : ∃ V, V = w4.alloc (.cells #[.int .i64 pl2, .bool false, .int .u64 (sw noP 0 : Nat), .int .u64 (sw noP 1 : Nat), .int .u64 (sw noP 2 : Nat), .int .u64 (sw noP 3 : Nat), .int .u8 d] 139) := ⟨_, rfl⟩
  rw [← hV]
  have HA5 := Lib.hid (show Mv cb s _ w4 w5 by rw [hV]; exact Mv.below HR4.out.2.1 ((Below.refl _ _).alloc (Nat.le_refl _) _))
  have HM5 := Lib.hid (HM4.out.trans HA5.out)
  have HBB : Hid (w5.heap[w4.heap.size]? = some (.cells #[.int .i64 pl2, .bool false, .int .u64 (sw noP 0 : Nat), .int .u64 (sw noP 1 : Nat), .int .u64 (sw noP 2 : Nat), .int .u64 (sw noP 3 : Nat), .int .u8 d] 139)) := Lib.hid (by rw [hV]; exact alloc_last _ _)
  have hzB : w4.heap.size < w5.heap.size := by rw [hV]; simp
  have hWB : cb < w4.heap.size := HR4.out.lt.2
  clear hV
  have HR5 := Lib.hid (HR0.out.mv HM5.out)
  have hsz5 : w.heap.size < w5.heap.size := Nat.lt_of_lt_of_le hsz HM5.out.1.size
  obtain ⟨a50, a51, a52, a5z⟩ := HR5.out.facts
  have HN5 := Lib.hid (HN4.out.trans HA5.out)
  have HO5 := Lib.hid (Mv.refl HR5.out.2.1)
  have hbA := (HN5.out.2.2 w1.heap.size hzA (by omega)).trans HBA.out
  obtain ⟨⟨r0, r1, r2, r3, r4, r5, r6⟩, ⟨rg0, rg1, rg2, rg3, rg4, rg5, rg6⟩, rz⟩ := cells7 hbA
  clear hbA
  have hbB := (HO5.out.2.2 w4.heap.size hzB (by omega)).trans HBB.out
  obtain ⟨⟨t0, t1, t2, t3, t4, t5, t6⟩, ⟨tg0, tg1, tg2, tg3, tg4, tg5, tg6⟩, tz⟩ := cells7 hbB
  clear hbB
  go_wp2_with fail
  refine (HX _).out.mono ?_
  rintro e' w6 ⟨rfl, hb6⟩
  have HM6 := Lib.hid (HM5.out.trans (Mv.below HR5.out.2.1 hb6))
  have hsz6 : w.heap.size < w6.heap.size := Nat.lt_of_lt_of_le hsz HM6.out.1.size
  clear hb6
  have hg := (HM6.out.2.2 w.heap.size hsz (by omega)).trans HG0.out
  obtain ⟨⟨c0, c1, c2, c3⟩, ⟨g0, g1, g2, g3⟩, hgz⟩ := cells4 hg
  clear hg
  unfold SV
  go_wp2
  exact bodyPost_ret (by simp [results, Tryd.results79, go_sem, c0, c1, c2, c3]; rfl) rfl ⟨rfl, (Mv.setOther (Mv.setOther (Mv.setOther (Mv.setOther (HMW.out.trans HM6.out) w.heap.size 0 _ (Nat.le_refl _) hcb) w.heap.size 1 _ (Nat.le_refl _) hcb) w.heap.size 2 _ (Nat.le_refl _) hcb) w.heap.size 3 _ (Nat.le_refl _) hcb)⟩

set_option maxRecDepth 100000 in
set_option maxHeartbeats 8000000 in
theorem party_cls (e : Nat → Addr) (rb cb : Nat) (s : ByteArray) (k ah k1 pl : Nat) (lg : Int) (w : World) (he : Es w cb e) (h : Rdr w rb cb s k ah lg) (p : Nat → Bool)
    (hi : ∀ w', Rdr w' rb cb s k ah lg → Es w' cb e → Calls Tryd.prog 95 #[.pointer (some ⟨rb, 0, none⟩)] w' fun e w'' => e = .returned (.tuple #[IV pl true p 0, .nilIface]) ∧ Mv cb s k1 w' w'') :
    Calls Tryd.prog 79 #[.pointer (some ⟨rb, 0, none⟩)] w fun e w' => e = .returned (.tuple #[SV p, .nilIface]) ∧ Mv cb s k1 w w' := by
  have HH := Lib.hid h
  have HE := Lib.hid he
  have HI := Lib.hid hi
  clear h he hi
  go_enter Tryd.func79, Tryd.ntmps79
  go_wp2_with fail
  obtain ⟨W, hW⟩ : ∃ W, W = w.alloc (.cells #[.int .u64 0, .int .u64 0, .int .u64 0, .int .u64 0] 53) := ⟨_, rfl⟩
  rw [← hW]
  have HMW : Hid (Mv cb s k w W) := Lib.hid (by rw [hW]; exact Mv.below HH.out.2.1 ((Below.refl _ _).alloc (Nat.le_refl _) _))
  have HG0 : Hid (W.heap[w.heap.size]? = some (.cells #[.int .u64 0, .int .u64 0, .int .u64 0, .int .u64 0] 53)) := Lib.hid (by rw [hW]; exact alloc_last w _)
  have hsz : w.heap.size < W.heap.size := by rw [hW]; simp
  clear hW
  have hcb := HH.out.lt.2
  have HR0 := Lib.hid (HH.out.mv HMW.out)
  have HM0 := Lib.hid (Mv.refl HR0.out.2.1)
  have HE0 := Lib.hid (HE.out.below HMW.out.1)
  refine (HI.out _ HR0.out HE0.out).mono ?_
  rintro e' w1 ⟨rfl, hm1⟩
  have HM1 := Lib.hid (HM0.out.trans hm1)
  have HR1 := Lib.hid (HR0.out.mv HM1.out)
  obtain ⟨a10, a11, a12, a1z⟩ := HR1.out.facts
  have hsz1 : w.heap.size < w1.heap.size := Nat.lt_of_lt_of_le hsz HM1.out.1.size
  clear hm1
  unfold IV
  have hg := (HM1.out.2.2 w.heap.size hsz (by omega)).trans HG0.out
  obtain ⟨⟨c0, c1, c2, c3⟩, ⟨g0, g1, g2, g3⟩, hgz⟩ := cells4 hg
  clear hg
  go_wp2
  exact bodyPost_ret (by simp [results, Tryd.results79, go_sem, c0, c1, c2, c3, hgz]; rfl) rfl ⟨rfl, (Mv.alo (Mv.setOther (Mv.setOther (Mv.setOther (Mv.setOther (HMW.out.trans HM1.out) w.heap.size 0 _ (Nat.le_refl _) hcb) w.heap.size 1 _ (Nat.le_refl _) hcb) w.heap.size 2 _ (Nat.le_refl _) hcb) w.heap.size 3 _ (Nat.le_refl _) hcb) _)⟩

/-- What a part of a bracket is. -/
inductive PR where
  | bad (code pos : Nat)
  | ok (p : Nat → Bool) (next : Nat)
def partR (cf : ByteArray → (Nat → Bool) × Bool) (s : ByteArray) (glob : Bool) (k : Nat) : PR :=
  match itemR cf s glob k with
  | .bad pos => .bad 8 pos
  | .cls p nx => .ok p nx
  | .byt c nx =>
    if atB s nx = 45 ∧ ¬ atB s (nx + 1) = 93 then
      match itemR cf s glob (nx + 1) with
      | .bad pos => .bad 8 pos
      | .cls _ _ => .bad 8 (nx + 1)
      | .byt d nx2 => if d < c then .bad 7 k else .ok (rng c.toNat d.toNat) nx2
    else .ok (rng c.toNat c.toNat) nx
def PartPost (cf : ByteArray → (Nat → Bool) × Bool) (e : Nat → Addr) (cb : Nat) (s : ByteArray) (k ah : Nat) (lg : Int) (w : World) (x : Ending) (w' : World) : Prop :=
  match partR cf s (decide (lg = 2)) k with
  | .ok p nx => x = .returned (.tuple #[SV p, .nilIface]) ∧ Mv cb s nx w w'
  | .bad c pos => ∃ v k', x = .returned (.tuple #[SV noP, v]) ∧ Mv cb s k' w w' ∧ ErrS w' (w.heap.size + 1) e lg c (ah + pos : Nat) v
theorem atB_byte (s : ByteArray) (k : Nat) : 0 ≤ atB s k ∧ atB s k ≤ 255 := bys_byt s k
theorem itemR_byte {cf : ByteArray → (Nat → Bool) × Bool} {s : ByteArray} {g : Bool} {k : Nat} {c : Int} {nx : Nat} (h : itemR cf s g k = .byt c nx) : (0 ≤ c ∧ c ≤ 255) ∧ nx ≤ s.size ∧ k < nx := by
  unfold itemR at h
  split at h
  · split at h
    · cases h
    · split at h <;> cases h
  · split at h
    · cases h
    · split at h
      · split at h
        · cases h; exact ⟨atB_byte s _, by omega, by omega⟩
        · cases h
      · split at h
        · cases h; exact ⟨atB_byte s _, by omega, by omega⟩
        · cases h
theorem part_any (cf : ByteArray → (Nat → Bool) × Bool) (hcf : ClassOk cf) (e : Nat → Addr) (rb cb : Nat) (s : ByteArray) (k ah : Nat) (lg : Int) (hb47 : s.size ≤ 140737488351232) (w : World) (he : Es w cb e) (h : Rdr w rb cb s k ah lg) :
    Calls Tryd.prog 79 #[.pointer (some ⟨rb, 0, none⟩)] w (PartPost cf e cb s k ah lg w) := by
  have HIT : ∀ j w', Rdr w' rb cb s j ah lg → Es w' cb e → Calls Tryd.prog 95 #[.pointer (some ⟨rb, 0, none⟩)] w' (ItemPost cf e cb s j ah lg w') := fun j w' h' e' => item_any cf hcf e rb cb s j ah lg hb47 w' e' h'
  unfold PartPost partR
  cases h1 : itemR cf s (decide (lg = 2)) k with
  | bad pos =>
    simp only
    exact part_bad1 e rb cb s k ah (ah + pos) lg w he h (fun w' h' e' => by have := HIT k w' h' e'; unfold ItemPost at this; rw [h1] at this; exact this)
  | cls p nx =>
    simp only
    exact party_cls e rb cb s k ah nx (ah + k) lg w he h p (fun w' h' e' => by have := HIT k w' h' e'; unfold ItemPost at this; rw [h1] at this; exact this)
  | byt c nx =>
    obtain ⟨⟨hc0, hc1⟩, hnx, _⟩ := itemR_byte h1
    obtain ⟨cn, rfl⟩ := Int.eq_ofNat_of_zero_le hc0
    have hI : ∀ w', Rdr w' rb cb s k ah lg → Es w' cb e → Calls Tryd.prog 95 #[.pointer (some ⟨rb, 0, none⟩)] w' fun e w'' => e = .returned (.tuple #[IV (ah + k) false noP cn, .nilIface]) ∧ Mv cb s nx w' w'' := fun w' h' e' => by have := HIT k w' h' e'; unfold ItemPost at this; rw [h1] at this; exact this
    simp only [Int.toNat_natCast]
    by_cases hd : atB s nx = 45 ∧ ¬ atB s (nx + 1) = 93
    · rw [if_pos hd]
      have hD := fun w' (h' : Rdr w' rb cb s nx ah lg) => dash_yes rb cb s nx ah lg w' h' hd.1 hd.2
      cases h2 : itemR cf s (decide (lg = 2)) (nx + 1) with
      | bad pos =>
        simp only
        exact part_bad2 e rb cb s k ah nx (ah + k) cn (ah + pos) lg w he h hI hD (fun w' h' e' => by have := HIT (nx + 1) w' h' e'; unfold ItemPost at this; rw [h2] at this; exact this)
      | cls p nx2 =>
        simp only
        exact part_dcls e rb cb s k ah nx nx2 (ah + k) cn (ah + (nx + 1)) lg w he h p hI hD (fun w' h' e' => by have := HIT (nx + 1) w' h' e'; unfold ItemPost at this; rw [h2] at this; exact this)
      | byt d nx2 =>
        obtain ⟨⟨hd0, hd1⟩, _, _⟩ := itemR_byte h2
        obtain ⟨dn, rfl⟩ := Int.eq_ofNat_of_zero_le hd0
        have hJ : ∀ w', Rdr w' rb cb s (nx + 1) ah lg → Es w' cb e → Calls Tryd.prog 95 #[.pointer (some ⟨rb, 0, none⟩)] w' fun e w'' => e = .returned (.tuple #[IV (ah + (nx + 1)) false noP dn, .nilIface]) ∧ Mv cb s nx2 w' w'' := fun w' h' e' => by have := HIT (nx + 1) w' h' e'; unfold ItemPost at this; rw [h2] at this; exact this
        simp only [Int.toNat_natCast]
        by_cases hlt : (dn : Int) < cn
        · rw [if_pos hlt]
          exact part_rev e rb cb s k ah nx nx2 (ah + k) cn (ah + (nx + 1)) dn lg w he h (by omega) hI hD hJ
        · rw [if_neg hlt]
          exact party_range e rb cb s k ah nx nx2 (ah + k) cn (ah + (nx + 1)) dn lg w he h (by omega) (by omega) (by omega) hI hD hJ
    · rw [if_neg hd]
      refine party_one e rb cb s k ah nx (ah + k) cn lg w he h (by omega) hI fun w' h' => ?_
      by_cases h45 : atB s nx = 45
      · exact dash_end rb cb s nx ah lg w' h' h45 (Decidable.byContradiction fun h93 => hd ⟨h45, h93⟩)
      · exact dash_no rb cb s nx ah lg w' h' h45
end Go.Proofs.YtopnckfmdjhbjaaDoor
