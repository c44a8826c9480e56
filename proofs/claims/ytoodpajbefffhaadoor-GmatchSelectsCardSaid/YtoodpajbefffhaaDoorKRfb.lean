/- KRfb: several texts in one (kmerge.py). -/
import Derived.Test.YtoodpajbefffhaaDoorKRfa
/- The reference's Class at space, blank, cntrl, in one text. -/
namespace Go.Proofs.YtoodpajbefffhaaDoor
open Go.RowKit

set_option maxRecDepth 100000 in
set_option maxHeartbeats 16000000 in
theorem rclass_space (w : World) :
    Calls Tryd.prog 38 #[.string ⟨#[115, 112, 97, 99, 101]⟩] w fun e w' => e = .returned (.tuple #[SV (orP (rng 9 13) (rng 32 32)), .bool true]) ∧ Below w.heap.size w w' := by
  have X1 : ∀ w, Hid (Calls Tryd.prog 26 #[.int .u8 97, .int .u8 122] w fun e w' => e = .returned (SV (rng 97 122)) ∧ Below w.heap.size w w') := fun w => Lib.hid (rrange_any 97 122 (by omega) (by omega) w)
  have X2 : ∀ w, Hid (Calls Tryd.prog 26 #[.int .u8 65, .int .u8 90] w fun e w' => e = .returned (SV (rng 65 90)) ∧ Below w.heap.size w w') := fun w => Lib.hid (rrange_any 65 90 (by omega) (by omega) w)
  have X3 : ∀ w, Hid (Calls Tryd.prog 26 #[.int .u8 48, .int .u8 57] w fun e w' => e = .returned (SV (rng 48 57)) ∧ Below w.heap.size w w') := fun w => Lib.hid (rrange_any 48 57 (by omega) (by omega) w)
  have X4 : ∀ w, Hid (Calls Tryd.prog 26 #[.int .u8 33, .int .u8 126] w fun e w' => e = .returned (SV (rng 33 126)) ∧ Below w.heap.size w w') := fun w => Lib.hid (rrange_any 33 126 (by omega) (by omega) w)
  have Y1 : ∀ w, Hid (Calls Tryd.prog 25 #[.agg #[.int .u64 (sw (rng 97 122) 0 : Nat), .int .u64 (sw (rng 97 122) 1 : Nat), .int .u64 (sw (rng 97 122) 2 : Nat), .int .u64 (sw (rng 97 122) 3 : Nat)], .agg #[.int .u64 (sw (rng 65 90) 0 : Nat), .int .u64 (sw (rng 65 90) 1 : Nat), .int .u64 (sw (rng 65 90) 2 : Nat), .int .u64 (sw (rng 65 90) 3 : Nat)]] w fun e w' => e = .returned (SV (orP (rng 97 122) (rng 65 90))) ∧ Below w.heap.size w w') := fun w => Lib.hid (ror_any (rng 97 122) (rng 65 90) w)
  have Y2 : ∀ w, Hid (Calls Tryd.prog 25 #[.agg #[.int .u64 (sw (orP (rng 97 122) (rng 65 90)) 0 : Nat), .int .u64 (sw (orP (rng 97 122) (rng 65 90)) 1 : Nat), .int .u64 (sw (orP (rng 97 122) (rng 65 90)) 2 : Nat), .int .u64 (sw (orP (rng 97 122) (rng 65 90)) 3 : Nat)], .agg #[.int .u64 (sw (rng 48 57) 0 : Nat), .int .u64 (sw (rng 48 57) 1 : Nat), .int .u64 (sw (rng 48 57) 2 : Nat), .int .u64 (sw (rng 48 57) 3 : Nat)]] w fun e w' => e = .returned (SV (orP (orP (rng 97 122) (rng 65 90)) (rng 48 57))) ∧ Below w.heap.size w w') := fun w => Lib.hid (ror_any (orP (rng 97 122) (rng 65 90)) (rng 48 57) w)
  have Z1 : ∀ w, Hid (Calls Tryd.prog 26 #[.int .u8 9, .int .u8 13] w fun e w' => e = .returned (SV (rng 9 13)) ∧ Below w.heap.size w w') := fun w => Lib.hid (rrange_any 9 13 (by omega) (by omega) w)
  have Z2 : ∀ w, Hid (Calls Tryd.prog 26 #[.int .u8 32, .int .u8 32] w fun e w' => e = .returned (SV (rng 32 32)) ∧ Below w.heap.size w w') := fun w => Lib.hid (rrange_any 32 32 (by omega) (by omega) w)
  have Z3 : ∀ w, Hid (Calls Tryd.prog 25 #[.agg #[.int .u64 (sw (rng 9 13) 0 : Nat), .int .u64 (sw (rng 9 13) 1 : Nat), .int .u64 (sw (rng 9 13) 2 : Nat), .int .u64 (sw (rng 9 13) 3 : Nat)], .agg #[.int .u64 (sw (rng 32 32) 0 : Nat), .int .u64 (sw (rng 32 32) 1 : Nat), .int .u64 (sw (rng 32 32) 2 : Nat), .int .u64 (sw (rng 32 32) 3 : Nat)]] w fun e w' => e = .returned (SV (orP (rng 9 13) (rng 32 32))) ∧ Below w.heap.size w w') := fun w => Lib.hid (ror_any (rng 9 13) (rng 32 32) w)
  go_enter Tryd.func38, Tryd.ntmps38
  go_wp2_with fail
  have HB0 : Hid (Below (w.heap.size + 1) (w.alloc (.cells #[.int .u64 0, .int .u64 0, .int .u64 0, .int .u64 0] 39)) (w.alloc (.cells #[.int .u64 0, .int .u64 0, .int .u64 0, .int .u64 0] 39))) := Lib.hid (Below.refl _ _)
  refine (X1 _).out.mono ?_
  rintro e w1 ⟨rfl, hb1⟩
  have HB1 := Lib.hid (HB0.out.trans (hb1.mono (bsz HB0.out)))
  clear hb1
  go_wp2_with fail
  refine (X2 _).out.mono ?_
  rintro e w2 ⟨rfl, hb2⟩
  have HB2 := Lib.hid (HB1.out.trans (hb2.mono (bsz HB1.out)))
  clear hb2
  go_wp2_with fail
  refine (X3 _).out.mono ?_
  rintro e w3 ⟨rfl, hb3⟩
  have HB3 := Lib.hid (HB2.out.trans (hb3.mono (bsz HB2.out)))
  clear hb3
  go_wp2_with fail
  refine (X4 _).out.mono ?_
  rintro e w4 ⟨rfl, hb4⟩
  have HB4 := Lib.hid (HB3.out.trans (hb4.mono (bsz HB3.out)))
  clear hb4
  unfold SV
  go_wp2_with fail
  have HKS := RB.start w w4 HB4.out
  have HBW := Lib.hid ((((HB4.out.alloc (bsz HB4.out) (.cells #[.int .u64 (sw (rng 97 122) 0 : Nat), .int .u64 (sw (rng 97 122) 1 : Nat), .int .u64 (sw (rng 97 122) 2 : Nat), .int .u64 (sw (rng 97 122) 3 : Nat)] 39)).alloc (by have := HB4.out.size; simp at this; simp; omega) (.cells #[.int .u64 (sw (rng 65 90) 0 : Nat), .int .u64 (sw (rng 65 90) 1 : Nat), .int .u64 (sw (rng 65 90) 2 : Nat), .int .u64 (sw (rng 65 90) 3 : Nat)] 39)).alloc (by have := HB4.out.size; simp at this; simp; omega) (.cells #[.int .u64 (sw (rng 48 57) 0 : Nat), .int .u64 (sw (rng 48 57) 1 : Nat), .int .u64 (sw (rng 48 57) 2 : Nat), .int .u64 (sw (rng 48 57) 3 : Nat)] 39)).alloc (by have := HB4.out.size; simp at this; simp; omega) (.cells #[.int .u64 (sw (rng 33 126) 0 : Nat), .int .u64 (sw (rng 33 126) 1 : Nat), .int .u64 (sw (rng 33 126) 2 : Nat), .int .u64 (sw (rng 33 126) 3 : Nat)] 39))
  obtain ⟨V, hV⟩ : ∃ V, V = (((w4.alloc (.cells #[.int .u64 (sw (rng 97 122) 0 : Nat), .int .u64 (sw (rng 97 122) 1 : Nat), .int .u64 (sw (rng 97 122) 2 : Nat), .int .u64 (sw (rng 97 122) 3 : Nat)] 39)).alloc (.cells #[.int .u64 (sw (rng 65 90) 0 : Nat), .int .u64 (sw (rng 65 90) 1 : Nat), .int .u64 (sw (rng 65 90) 2 : Nat), .int .u64 (sw (rng 65 90) 3 : Nat)] 39)).alloc (.cells #[.int .u64 (sw (rng 48 57) 0 : Nat), .int .u64 (sw (rng 48 57) 1 : Nat), .int .u64 (sw (rng 48 57) 2 : Nat), .int .u64 (sw (rng 48 57) 3 : Nat)] 39)).alloc (.cells #[.int .u64 (sw (rng 33 126) 0 : Nat), .int .u64 (sw (rng 33 126) 1 : Nat), .int .u64 (sw (rng 33 126) 2 : Nat), .int .u64 (sw (rng 33 126) 3 : Nat)] 39) := ⟨_, rfl⟩
  rw [← hV] at HKS HBW ⊢
  clear hV
  have HY0 : Hid (RB w w4.heap.size V.drew) := Lib.hid (HKS.nxt (Below.refl _ _).drew)
  have HBV : Hid (Below (w.heap.size + 1) (w.alloc (.cells #[.int .u64 0, .int .u64 0, .int .u64 0, .int .u64 0] 39)) V.drew) := Lib.hid HBW.out.drew
  clear HKS HBW
  refine wp_region_held (S := fun X => RB w w4.heap.size X) (by kernel_rfl) ?_
  try (change wpAnyH _ _ _ _ _ _ _ _ (World.drew _))
  generalize V.drew = X0 at *
  refine wpAnyH_take (i := 0) (v := .agg #[.int .u64 (sw (rng 97 122) 0 : Nat), .int .u64 (sw (rng 97 122) 1 : Nat), .int .u64 (sw (rng 97 122) 2 : Nat), .int .u64 (sw (rng 97 122) 3 : Nat)]) rfl (by kernel_rfl) (by kernel_rfl) (by kernel_rfl) (fun _ _ _ h => h) (Or.inl ⟨by kernel_rfl, ?_⟩) HY0.out ?_
  · intro X hS; obtain ⟨_, _, hS3, hS4, hS5, hS6⟩ := hS; obtain ⟨⟨z0, z1, z2, z3⟩, _⟩ := blk4 hS3; clear hS3 hS4 hS5 hS6; go_simp
  try simp only [Act.put, List.setIfInBounds_toArray]
  refine wpAnyH_take (i := 1) (v := .agg #[.int .u64 (sw (rng 65 90) 0 : Nat), .int .u64 (sw (rng 65 90) 1 : Nat), .int .u64 (sw (rng 65 90) 2 : Nat), .int .u64 (sw (rng 65 90) 3 : Nat)]) rfl (by kernel_rfl) (by kernel_rfl) (by kernel_rfl) (fun _ _ _ h => h) (Or.inl ⟨by kernel_rfl, ?_⟩) HY0.out ?_
  · intro X hS; obtain ⟨_, _, hS3, hS4, hS5, hS6⟩ := hS; obtain ⟨⟨z0, z1, z2, z3⟩, _⟩ := blk4 hS4; clear hS3 hS4 hS5 hS6; go_simp
  try simp only [Act.put]
  refine wpAnyH_take (i := 3) (v := .agg #[.int .u64 (sw (rng 48 57) 0 : Nat), .int .u64 (sw (rng 48 57) 1 : Nat), .int .u64 (sw (rng 48 57) 2 : Nat), .int .u64 (sw (rng 48 57) 3 : Nat)]) rfl (by kernel_rfl) (by kernel_rfl) (by kernel_rfl) (fun _ _ _ h => h) (Or.inl ⟨by kernel_rfl, ?_⟩) HY0.out ?_
  · intro X hS; obtain ⟨_, _, hS3, hS4, hS5, hS6⟩ := hS; obtain ⟨⟨z0, z1, z2, z3⟩, _⟩ := blk4 hS5; clear hS3 hS4 hS5 hS6; go_simp
  try simp only [Act.put]
  have HYX0 := HY0
  have HBX0 := HBV
  refine wpAnyH_all (rs := [2, 5]) (by kernel_rfl) (by simp) ?_
  intro ii hii
  simp only [List.mem_cons, List.not_mem_nil, or_false] at hii
  rcases hii with rfl | rfl
  · skip
    refine wpOp_step (by rfl) ?_
    intro K' hK'
    go_simp
    go_at_call 25
    refine (Y1 _).out.mono ?_
    rintro e A1 ⟨rfl, hbc⟩
    have HYA1 := Lib.hid (HYX0.out.nxt hbc)
    have HBA1 := Lib.hid (HBX0.out.trans (hbc.mono (bsz HBX0.out)))
    clear hbc
    unfold SV
    refine hK' _ _ ⟨HYA1.out, ?_⟩
    clear hK'
    refine wpAnyH_all (rs := [4, 5]) (by kernel_rfl) (by simp) ?_
    intro ii hii
    simp only [List.mem_cons, List.not_mem_nil, or_false] at hii
    rcases hii with rfl | rfl
    · skip
      refine wpOp_step (by rfl) ?_
      intro K' hK'
      go_simp
      go_at_call 25
      refine (Y2 _).out.mono ?_
      rintro e A2 ⟨rfl, hbc⟩
      have HYA2 := Lib.hid (HYA1.out.nxt hbc)
      have HBA2 := Lib.hid (HBA1.out.trans (hbc.mono (bsz HBA1.out)))
      clear hbc
      unfold SV
      refine hK' _ _ ⟨HYA2.out, ?_⟩
      clear hK'
      refine wpAnyH_all (rs := [5]) (by kernel_rfl) (by simp) ?_
      intro ii hii
      rw [List.mem_singleton] at hii
      subst hii
      refine wpOp_step (by rfl) ?_
      intro K' hK'
      go_simp
      obtain ⟨A3, hV⟩ : ∃ V, V = A2.alloc (.cells #[.int .u64 0, .int .u64 0, .int .u64 0, .int .u64 0] 39) := ⟨_, rfl⟩
      rw [← hV]
      have HYA3 : Hid (RB w w4.heap.size A3) := Lib.hid (by rw [hV]; exact HYA2.out.nxt ((Below.refl _ _).alloc (Nat.le_refl _) _))
      have HBA3 : Hid (Below (w.heap.size + 1) (w.alloc (.cells #[.int .u64 0, .int .u64 0, .int .u64 0, .int .u64 0] 39)) A3) := Lib.hid (by rw [hV]; exact HBA2.out.trans (((Below.refl _ _).alloc (Nat.le_refl _) _).mono (bsz HBA2.out)))
      have HGA3 : Hid (A3.heap[A2.heap.size]? = some (.cells #[.int .u64 0, .int .u64 0, .int .u64 0, .int .u64 0] 39)) := Lib.hid (by rw [hV]; exact alloc_last4 _ _)
      have hg8 : w4.heap.size + 1 + 1 + 1 < A2.heap.size := lt_blk HYA2.out.2.2.2.2.2
      have hg9 : w.heap.size + 1 ≤ w4.heap.size := HYA2.out.2.1
      clear hV
      refine hK' _ _ ⟨HYA3.out, ?_⟩
      clear hK'
      obtain ⟨⟨t0, t1, t2, t3⟩, ⟨u0, u1, u2, u3⟩, uz⟩ := blk4f HGA3.out
      refine wpAnyH_all (rs := [6]) (by kernel_rfl) (by simp) ?_
      intro ii hii
      rw [List.mem_singleton] at hii
      subst hii
      refine wpOp_step (by rfl) ?_
      intro K' hK'
      go_simp
      obtain ⟨A3s, hV⟩ : ∃ V, V = (((A3.setCell ⟨A2.heap.size, 0, none⟩ (.int .u64 (sw (orP (orP (rng 97 122) (rng 65 90)) (rng 48 57)) 0 : Nat))).setCell ⟨A2.heap.size, 1, none⟩ (.int .u64 (sw (orP (orP (rng 97 122) (rng 65 90)) (rng 48 57)) 1 : Nat))).setCell ⟨A2.heap.size, 2, none⟩ (.int .u64 (sw (orP (orP (rng 97 122) (rng 65 90)) (rng 48 57)) 2 : Nat))).setCell ⟨A2.heap.size, 3, none⟩ (.int .u64 (sw (orP (orP (rng 97 122) (rng 65 90)) (rng 48 57)) 3 : Nat)) := ⟨_, rfl⟩
      rw [← hV]
      have HYA3s : Hid (RB w w4.heap.size A3s) := Lib.hid (by rw [hV]; exact (((HYA3.out.set _ 0 _ (Or.inr hg8)).set _ 1 _ (Or.inr hg8)).set _ 2 _ (Or.inr hg8)).set _ 3 _ (Or.inr hg8))
      have HBA3s : Hid (Below (w.heap.size + 1) (w.alloc (.cells #[.int .u64 0, .int .u64 0, .int .u64 0, .int .u64 0] 39)) A3s) := Lib.hid (by rw [hV]; exact (((HBA3.out.setCell (by simp; omega) _).setCell (by simp; omega) _).setCell (by simp; omega) _).setCell (by simp; omega) _)
      have HRA3s : Hid (Row4 A3s A2.heap.size 0 (orP (orP (rng 97 122) (rng 65 90)) (rng 48 57))) := Lib.hid (by rw [hV]; exact row4_put (p := noP) (orP (orP (rng 97 122) (rng 65 90)) (rng 48 57)) (row_no t0 t1 t2 t3))
      have hgz : A2.heap.size < A3s.heap.size := by rw [hV]; simpa using uz
      clear hV t0 t1 t2 t3 u0 u1 u2 u3 uz
      refine hK' _ _ ⟨HYA3s.out, ?_⟩
      clear hK'
      refine wpAnyH_done (by kernel_rfl) ?_ _
      go_wp2_with fail
      refine (Z1 _).out.mono ?_
      rintro e A3sq0 ⟨rfl, hbc⟩
      have HBA3sq0 := Lib.hid (HBA3s.out.trans (hbc.mono (bsz HBA3s.out)))
      clear hbc
      go_wp2_with fail
      refine (Z2 _).out.mono ?_
      rintro e A3sq1 ⟨rfl, hbc⟩
      have HBA3sq1 := Lib.hid (HBA3sq0.out.trans (hbc.mono (bsz HBA3sq0.out)))
      clear hbc
      unfold SV
      go_wp2_with fail
      refine (Z3 _).out.mono ?_
      rintro e A3sq2 ⟨rfl, hbc⟩
      have HBA3sq2 := Lib.hid (HBA3sq1.out.trans (hbc.mono (bsz HBA3sq1.out)))
      clear hbc
      unfold SV
      obtain ⟨r0, r1, r2, r3, s0, s1, s2, s3, rz⟩ := res_facts HBA3sq2.out (Nat.lt_succ_self _)
      go_wp2
      exact bodyPost_ret (by simp [results, Tryd.results38, go_sem, r0, r1, r2, r3]; rfl) rfl ⟨rfl, res_below HBA3sq2.out _ _ _ _⟩
    · skip
      refine wpOp_step (by rfl) ?_
      intro K' hK'
      go_simp
      obtain ⟨C2, hV⟩ : ∃ V, V = A1.alloc (.cells #[.int .u64 0, .int .u64 0, .int .u64 0, .int .u64 0] 39) := ⟨_, rfl⟩
      rw [← hV]
      have HYC2 : Hid (RB w w4.heap.size C2) := Lib.hid (by rw [hV]; exact HYA1.out.nxt ((Below.refl _ _).alloc (Nat.le_refl _) _))
      have HBC2 : Hid (Below (w.heap.size + 1) (w.alloc (.cells #[.int .u64 0, .int .u64 0, .int .u64 0, .int .u64 0] 39)) C2) := Lib.hid (by rw [hV]; exact HBA1.out.trans (((Below.refl _ _).alloc (Nat.le_refl _) _).mono (bsz HBA1.out)))
      have HGC2 : Hid (C2.heap[A1.heap.size]? = some (.cells #[.int .u64 0, .int .u64 0, .int .u64 0, .int .u64 0] 39)) := Lib.hid (by rw [hV]; exact alloc_last4 _ _)
      have hg8 : w4.heap.size + 1 + 1 + 1 < A1.heap.size := lt_blk HYA1.out.2.2.2.2.2
      have hg9 : w.heap.size + 1 ≤ w4.heap.size := HYA1.out.2.1
      clear hV
      refine hK' _ _ ⟨HYC2.out, ?_⟩
      clear hK'
      refine wpAnyH_all (rs := [4]) (by kernel_rfl) (by simp) ?_
      intro ii hii
      rw [List.mem_singleton] at hii
      subst hii
      refine wpOp_step (by rfl) ?_
      intro K' hK'
      go_simp
      go_at_call 25
      refine (Y2 _).out.mono ?_
      rintro e C3 ⟨rfl, hbc⟩
      have HYC3 := Lib.hid (HYC2.out.nxt hbc)
      have HBC3 := Lib.hid (HBC2.out.trans (hbc.mono (bsz HBC2.out)))
      have HGC3 := Lib.hid ((hbc.block _ (lt_blk HGC2.out)).trans HGC2.out)
      clear hbc
      unfold SV
      refine hK' _ _ ⟨HYC3.out, ?_⟩
      clear hK'
      obtain ⟨⟨t0, t1, t2, t3⟩, ⟨u0, u1, u2, u3⟩, uz⟩ := blk4f HGC3.out
      refine wpAnyH_all (rs := [6]) (by kernel_rfl) (by simp) ?_
      intro ii hii
      rw [List.mem_singleton] at hii
      subst hii
      refine wpOp_step (by rfl) ?_
      intro K' hK'
      go_simp
      obtain ⟨C3s, hV⟩ : ∃ V, V = (((C3.setCell ⟨A1.heap.size, 0, none⟩ (.int .u64 (sw (orP (orP (rng 97 122) (rng 65 90)) (rng 48 57)) 0 : Nat))).setCell ⟨A1.heap.size, 1, none⟩ (.int .u64 (sw (orP (orP (rng 97 122) (rng 65 90)) (rng 48 57)) 1 : Nat))).setCell ⟨A1.heap.size, 2, none⟩ (.int .u64 (sw (orP (orP (rng 97 122) (rng 65 90)) (rng 48 57)) 2 : Nat))).setCell ⟨A1.heap.size, 3, none⟩ (.int .u64 (sw (orP (orP (rng 97 122) (rng 65 90)) (rng 48 57)) 3 : Nat)) := ⟨_, rfl⟩
      rw [← hV]
      have HYC3s : Hid (RB w w4.heap.size C3s) := Lib.hid (by rw [hV]; exact (((HYC3.out.set _ 0 _ (Or.inr hg8)).set _ 1 _ (Or.inr hg8)).set _ 2 _ (Or.inr hg8)).set _ 3 _ (Or.inr hg8))
      have HBC3s : Hid (Below (w.heap.size + 1) (w.alloc (.cells #[.int .u64 0, .int .u64 0, .int .u64 0, .int .u64 0] 39)) C3s) := Lib.hid (by rw [hV]; exact (((HBC3.out.setCell (by simp; omega) _).setCell (by simp; omega) _).setCell (by simp; omega) _).setCell (by simp; omega) _)
      have HRC3s : Hid (Row4 C3s A1.heap.size 0 (orP (orP (rng 97 122) (rng 65 90)) (rng 48 57))) := Lib.hid (by rw [hV]; exact row4_put (p := noP) (orP (orP (rng 97 122) (rng 65 90)) (rng 48 57)) (row_no t0 t1 t2 t3))
      have hgz : A1.heap.size < C3s.heap.size := by rw [hV]; simpa using uz
      clear hV t0 t1 t2 t3 u0 u1 u2 u3 uz
      refine hK' _ _ ⟨HYC3s.out, ?_⟩
      clear hK'
      refine wpAnyH_done (by kernel_rfl) ?_ _
      go_wp2_with fail
      refine (Z1 _).out.mono ?_
      rintro e C3sq0 ⟨rfl, hbc⟩
      have HBC3sq0 := Lib.hid (HBC3s.out.trans (hbc.mono (bsz HBC3s.out)))
      clear hbc
      go_wp2_with fail
      refine (Z2 _).out.mono ?_
      rintro e C3sq1 ⟨rfl, hbc⟩
      have HBC3sq1 := Lib.hid (HBC3sq0.out.trans (hbc.mono (bsz HBC3sq0.out)))
      clear hbc
      unfold SV
      go_wp2_with fail
      refine (Z3 _).out.mono ?_
      rintro e C3sq2 ⟨rfl, hbc⟩
      have HBC3sq2 := Lib.hid (HBC3sq1.out.trans (hbc.mono (bsz HBC3sq1.out)))
      clear hbc
      unfold SV
      obtain ⟨r0, r1, r2, r3, s0, s1, s2, s3, rz⟩ := res_facts HBC3sq2.out (Nat.lt_succ_self _)
      go_wp2
      exact bodyPost_ret (by simp [results, Tryd.results38, go_sem, r0, r1, r2, r3]; rfl) rfl ⟨rfl, res_below HBC3sq2.out _ _ _ _⟩
  · skip
    refine wpOp_step (by rfl) ?_
    intro K' hK'
    go_simp
    obtain ⟨D1, hV⟩ : ∃ V, V = X0.alloc (.cells #[.int .u64 0, .int .u64 0, .int .u64 0, .int .u64 0] 39) := ⟨_, rfl⟩
    rw [← hV]
    have HYD1 : Hid (RB w w4.heap.size D1) := Lib.hid (by rw [hV]; exact HYX0.out.nxt ((Below.refl _ _).alloc (Nat.le_refl _) _))
    have HBD1 : Hid (Below (w.heap.size + 1) (w.alloc (.cells #[.int .u64 0, .int .u64 0, .int .u64 0, .int .u64 0] 39)) D1) := Lib.hid (by rw [hV]; exact HBX0.out.trans (((Below.refl _ _).alloc (Nat.le_refl _) _).mono (bsz HBX0.out)))
    have HGD1 : Hid (D1.heap[X0.heap.size]? = some (.cells #[.int .u64 0, .int .u64 0, .int .u64 0, .int .u64 0] 39)) := Lib.hid (by rw [hV]; exact alloc_last4 _ _)
    have hg8 : w4.heap.size + 1 + 1 + 1 < X0.heap.size := lt_blk HYX0.out.2.2.2.2.2
    have hg9 : w.heap.size + 1 ≤ w4.heap.size := HYX0.out.2.1
    clear hV
    refine hK' _ _ ⟨HYD1.out, ?_⟩
    clear hK'
    refine wpAnyH_all (rs := [2]) (by kernel_rfl) (by simp) ?_
    intro ii hii
    rw [List.mem_singleton] at hii
    subst hii
    refine wpOp_step (by rfl) ?_
    intro K' hK'
    go_simp
    go_at_call 25
    refine (Y1 _).out.mono ?_
    rintro e D2 ⟨rfl, hbc⟩
    have HYD2 := Lib.hid (HYD1.out.nxt hbc)
    have HBD2 := Lib.hid (HBD1.out.trans (hbc.mono (bsz HBD1.out)))
    have HGD2 := Lib.hid ((hbc.block _ (lt_blk HGD1.out)).trans HGD1.out)
    clear hbc
    unfold SV
    refine hK' _ _ ⟨HYD2.out, ?_⟩
    clear hK'
    refine wpAnyH_all (rs := [4]) (by kernel_rfl) (by simp) ?_
    intro ii hii
    rw [List.mem_singleton] at hii
    subst hii
    refine wpOp_step (by rfl) ?_
    intro K' hK'
    go_simp
    go_at_call 25
    refine (Y2 _).out.mono ?_
    rintro e D3 ⟨rfl, hbc⟩
    have HYD3 := Lib.hid (HYD2.out.nxt hbc)
    have HBD3 := Lib.hid (HBD2.out.trans (hbc.mono (bsz HBD2.out)))
    have HGD3 := Lib.hid ((hbc.block _ (lt_blk HGD2.out)).trans HGD2.out)
    clear hbc
    unfold SV
    refine hK' _ _ ⟨HYD3.out, ?_⟩
    clear hK'
    obtain ⟨⟨t0, t1, t2, t3⟩, ⟨u0, u1, u2, u3⟩, uz⟩ := blk4f HGD3.out
    refine wpAnyH_all (rs := [6]) (by kernel_rfl) (by simp) ?_
    intro ii hii
    rw [List.mem_singleton] at hii
    subst hii
    refine wpOp_step (by rfl) ?_
    intro K' hK'
    go_simp
    obtain ⟨D3s, hV⟩ : ∃ V, V = (((D3.setCell ⟨X0.heap.size, 0, none⟩ (.int .u64 (sw (orP (orP (rng 97 122) (rng 65 90)) (rng 48 57)) 0 : Nat))).setCell ⟨X0.heap.size, 1, none⟩ (.int .u64 (sw (orP (orP (rng 97 122) (rng 65 90)) (rng 48 57)) 1 : Nat))).setCell ⟨X0.heap.size, 2, none⟩ (.int .u64 (sw (orP (orP (rng 97 122) (rng 65 90)) (rng 48 57)) 2 : Nat))).setCell ⟨X0.heap.size, 3, none⟩ (.int .u64 (sw (orP (orP (rng 97 122) (rng 65 90)) (rng 48 57)) 3 : Nat)) := ⟨_, rfl⟩
    rw [← hV]
    have HYD3s : Hid (RB w w4.heap.size D3s) := Lib.hid (by rw [hV]; exact (((HYD3.out.set _ 0 _ (Or.inr hg8)).set _ 1 _ (Or.inr hg8)).set _ 2 _ (Or.inr hg8)).set _ 3 _ (Or.inr hg8))
    have HBD3s : Hid (Below (w.heap.size + 1) (w.alloc (.cells #[.int .u64 0, .int .u64 0, .int .u64 0, .int .u64 0] 39)) D3s) := Lib.hid (by rw [hV]; exact (((HBD3.out.setCell (by simp; omega) _).setCell (by simp; omega) _).setCell (by simp; omega) _).setCell (by simp; omega) _)
    have HRD3s : Hid (Row4 D3s X0.heap.size 0 (orP (orP (rng 97 122) (rng 65 90)) (rng 48 57))) := Lib.hid (by rw [hV]; exact row4_put (p := noP) (orP (orP (rng 97 122) (rng 65 90)) (rng 48 57)) (row_no t0 t1 t2 t3))
    have hgz : X0.heap.size < D3s.heap.size := by rw [hV]; simpa using uz
    clear hV t0 t1 t2 t3 u0 u1 u2 u3 uz
    refine hK' _ _ ⟨HYD3s.out, ?_⟩
    clear hK'
    refine wpAnyH_done (by kernel_rfl) ?_ _
    go_wp2_with fail
    refine (Z1 _).out.mono ?_
    rintro e D3sq0 ⟨rfl, hbc⟩
    have HBD3sq0 := Lib.hid (HBD3s.out.trans (hbc.mono (bsz HBD3s.out)))
    clear hbc
    go_wp2_with fail
    refine (Z2 _).out.mono ?_
    rintro e D3sq1 ⟨rfl, hbc⟩
    have HBD3sq1 := Lib.hid (HBD3sq0.out.trans (hbc.mono (bsz HBD3sq0.out)))
    clear hbc
    unfold SV
    go_wp2_with fail
    refine (Z3 _).out.mono ?_
    rintro e D3sq2 ⟨rfl, hbc⟩
    have HBD3sq2 := Lib.hid (HBD3sq1.out.trans (hbc.mono (bsz HBD3sq1.out)))
    clear hbc
    unfold SV
    obtain ⟨r0, r1, r2, r3, s0, s1, s2, s3, rz⟩ := res_facts HBD3sq2.out (Nat.lt_succ_self _)
    go_wp2
    exact bodyPost_ret (by simp [results, Tryd.results38, go_sem, r0, r1, r2, r3]; rfl) rfl ⟨rfl, res_below HBD3sq2.out _ _ _ _⟩

set_option maxRecDepth 100000 in
set_option maxHeartbeats 16000000 in
theorem rclass_blank (w : World) :
    Calls Tryd.prog 38 #[.string ⟨#[98, 108, 97, 110, 107]⟩] w fun e w' => e = .returned (.tuple #[SV (orP (rng 9 9) (rng 32 32)), .bool true]) ∧ Below w.heap.size w w' := by
  have X1 : ∀ w, Hid (Calls Tryd.prog 26 #[.int .u8 97, .int .u8 122] w fun e w' => e = .returned (SV (rng 97 122)) ∧ Below w.heap.size w w') := fun w => Lib.hid (rrange_any 97 122 (by omega) (by omega) w)
  have X2 : ∀ w, Hid (Calls Tryd.prog 26 #[.int .u8 65, .int .u8 90] w fun e w' => e = .returned (SV (rng 65 90)) ∧ Below w.heap.size w w') := fun w => Lib.hid (rrange_any 65 90 (by omega) (by omega) w)
  have X3 : ∀ w, Hid (Calls Tryd.prog 26 #[.int .u8 48, .int .u8 57] w fun e w' => e = .returned (SV (rng 48 57)) ∧ Below w.heap.size w w') := fun w => Lib.hid (rrange_any 48 57 (by omega) (by omega) w)
  have X4 : ∀ w, Hid (Calls Tryd.prog 26 #[.int .u8 33, .int .u8 126] w fun e w' => e = .returned (SV (rng 33 126)) ∧ Below w.heap.size w w') := fun w => Lib.hid (rrange_any 33 126 (by omega) (by omega) w)
  have Y1 : ∀ w, Hid (Calls Tryd.prog 25 #[.agg #[.int .u64 (sw (rng 97 122) 0 : Nat), .int .u64 (sw (rng 97 122) 1 : Nat), .int .u64 (sw (rng 97 122) 2 : Nat), .int .u64 (sw (rng 97 122) 3 : Nat)], .agg #[.int .u64 (sw (rng 65 90) 0 : Nat), .int .u64 (sw (rng 65 90) 1 : Nat), .int .u64 (sw (rng 65 90) 2 : Nat), .int .u64 (sw (rng 65 90) 3 : Nat)]] w fun e w' => e = .returned (SV (orP (rng 97 122) (rng 65 90))) ∧ Below w.heap.size w w') := fun w => Lib.hid (ror_any (rng 97 122) (rng 65 90) w)
  have Y2 : ∀ w, Hid (Calls Tryd.prog 25 #[.agg #[.int .u64 (sw (orP (rng 97 122) (rng 65 90)) 0 : Nat), .int .u64 (sw (orP (rng 97 122) (rng 65 90)) 1 : Nat), .int .u64 (sw (orP (rng 97 122) (rng 65 90)) 2 : Nat), .int .u64 (sw (orP (rng 97 122) (rng 65 90)) 3 : Nat)], .agg #[.int .u64 (sw (rng 48 57) 0 : Nat), .int .u64 (sw (rng 48 57) 1 : Nat), .int .u64 (sw (rng 48 57) 2 : Nat), .int .u64 (sw (rng 48 57) 3 : Nat)]] w fun e w' => e = .returned (SV (orP (orP (rng 97 122) (rng 65 90)) (rng 48 57))) ∧ Below w.heap.size w w') := fun w => Lib.hid (ror_any (orP (rng 97 122) (rng 65 90)) (rng 48 57) w)
  have Z1 : ∀ w, Hid (Calls Tryd.prog 26 #[.int .u8 9, .int .u8 9] w fun e w' => e = .returned (SV (rng 9 9)) ∧ Below w.heap.size w w') := fun w => Lib.hid (rrange_any 9 9 (by omega) (by omega) w)
  have Z2 : ∀ w, Hid (Calls Tryd.prog 26 #[.int .u8 32, .int .u8 32] w fun e w' => e = .returned (SV (rng 32 32)) ∧ Below w.heap.size w w') := fun w => Lib.hid (rrange_any 32 32 (by omega) (by omega) w)
  have Z3 : ∀ w, Hid (Calls Tryd.prog 25 #[.agg #[.int .u64 (sw (rng 9 9) 0 : Nat), .int .u64 (sw (rng 9 9) 1 : Nat), .int .u64 (sw (rng 9 9) 2 : Nat), .int .u64 (sw (rng 9 9) 3 : Nat)], .agg #[.int .u64 (sw (rng 32 32) 0 : Nat), .int .u64 (sw (rng 32 32) 1 : Nat), .int .u64 (sw (rng 32 32) 2 : Nat), .int .u64 (sw (rng 32 32) 3 : Nat)]] w fun e w' => e = .returned (SV (orP (rng 9 9) (rng 32 32))) ∧ Below w.heap.size w w') := fun w => Lib.hid (ror_any (rng 9 9) (rng 32 32) w)
  go_enter Tryd.func38, Tryd.ntmps38
  go_wp2_with fail
  have HB0 : Hid (Below (w.heap.size + 1) (w.alloc (.cells #[.int .u64 0, .int .u64 0, .int .u64 0, .int .u64 0] 39)) (w.alloc (.cells #[.int .u64 0, .int .u64 0, .int .u64 0, .int .u64 0] 39))) := Lib.hid (Below.refl _ _)
  refine (X1 _).out.mono ?_
  rintro e w1 ⟨rfl, hb1⟩
  have HB1 := Lib.hid (HB0.out.trans (hb1.mono (bsz HB0.out)))
  clear hb1
  go_wp2_with fail
  refine (X2 _).out.mono ?_
  rintro e w2 ⟨rfl, hb2⟩
  have HB2 := Lib.hid (HB1.out.trans (hb2.mono (bsz HB1.out)))
  clear hb2
  go_wp2_with fail
  refine (X3 _).out.mono ?_
  rintro e w3 ⟨rfl, hb3⟩
  have HB3 := Lib.hid (HB2.out.trans (hb3.mono (bsz HB2.out)))
  clear hb3
  go_wp2_with fail
  refine (X4 _).out.mono ?_
  rintro e w4 ⟨rfl, hb4⟩
  have HB4 := Lib.hid (HB3.out.trans (hb4.mono (bsz HB3.out)))
  clear hb4
  unfold SV
  go_wp2_with fail
  have HKS := RB.start w w4 HB4.out
  have HBW := Lib.hid ((((HB4.out.alloc (bsz HB4.out) (.cells #[.int .u64 (sw (rng 97 122) 0 : Nat), .int .u64 (sw (rng 97 122) 1 : Nat), .int .u64 (sw (rng 97 122) 2 : Nat), .int .u64 (sw (rng 97 122) 3 : Nat)] 39)).alloc (by have := HB4.out.size; simp at this; simp; omega) (.cells #[.int .u64 (sw (rng 65 90) 0 : Nat), .int .u64 (sw (rng 65 90) 1 : Nat), .int .u64 (sw (rng 65 90) 2 : Nat), .int .u64 (sw (rng 65 90) 3 : Nat)] 39)).alloc (by have := HB4.out.size; simp at this; simp; omega) (.cells #[.int .u64 (sw (rng 48 57) 0 : Nat), .int .u64 (sw (rng 48 57) 1 : Nat), .int .u64 (sw (rng 48 57) 2 : Nat), .int .u64 (sw (rng 48 57) 3 : Nat)] 39)).alloc (by have := HB4.out.size; simp at this; simp; omega) (.cells #[.int .u64 (sw (rng 33 126) 0 : Nat), .int .u64 (sw (rng 33 126) 1 : Nat), .int .u64 (sw (rng 33 126) 2 : Nat), .int .u64 (sw (rng 33 126) 3 : Nat)] 39))
  obtain ⟨V, hV⟩ : ∃ V, V = (((w4.alloc (.cells #[.int .u64 (sw (rng 97 122) 0 : Nat), .int .u64 (sw (rng 97 122) 1 : Nat), .int .u64 (sw (rng 97 122) 2 : Nat), .int .u64 (sw (rng 97 122) 3 : Nat)] 39)).alloc (.cells #[.int .u64 (sw (rng 65 90) 0 : Nat), .int .u64 (sw (rng 65 90) 1 : Nat), .int .u64 (sw (rng 65 90) 2 : Nat), .int .u64 (sw (rng 65 90) 3 : Nat)] 39)).alloc (.cells #[.int .u64 (sw (rng 48 57) 0 : Nat), .int .u64 (sw (rng 48 57) 1 : Nat), .int .u64 (sw (rng 48 57) 2 : Nat), .int .u64 (sw (rng 48 57) 3 : Nat)] 39)).alloc (.cells #[.int .u64 (sw (rng 33 126) 0 : Nat), .int .u64 (sw (rng 33 126) 1 : Nat), .int .u64 (sw (rng 33 126) 2 : Nat), .int .u64 (sw (rng 33 126) 3 : Nat)] 39) := ⟨_, rfl⟩
  rw [← hV] at HKS HBW ⊢
  clear hV
  have HY0 : Hid (RB w w4.heap.size V.drew) := Lib.hid (HKS.nxt (Below.refl _ _).drew)
  have HBV : Hid (Below (w.heap.size + 1) (w.alloc (.cells #[.int .u64 0, .int .u64 0, .int .u64 0, .int .u64 0] 39)) V.drew) := Lib.hid HBW.out.drew
  clear HKS HBW
  refine wp_region_held (S := fun X => RB w w4.heap.size X) (by kernel_rfl) ?_
  try (change wpAnyH _ _ _ _ _ _ _ _ (World.drew _))
  generalize V.drew = X0 at *
  refine wpAnyH_take (i := 0) (v := .agg #[.int .u64 (sw (rng 97 122) 0 : Nat), .int .u64 (sw (rng 97 122) 1 : Nat), .int .u64 (sw (rng 97 122) 2 : Nat), .int .u64 (sw (rng 97 122) 3 : Nat)]) rfl (by kernel_rfl) (by kernel_rfl) (by kernel_rfl) (fun _ _ _ h => h) (Or.inl ⟨by kernel_rfl, ?_⟩) HY0.out ?_
  · intro X hS; obtain ⟨_, _, hS3, hS4, hS5, hS6⟩ := hS; obtain ⟨⟨z0, z1, z2, z3⟩, _⟩ := blk4 hS3; clear hS3 hS4 hS5 hS6; go_simp
  try simp only [Act.put, List.setIfInBounds_toArray]
  refine wpAnyH_take (i := 1) (v := .agg #[.int .u64 (sw (rng 65 90) 0 : Nat), .int .u64 (sw (rng 65 90) 1 : Nat), .int .u64 (sw (rng 65 90) 2 : Nat), .int .u64 (sw (rng 65 90) 3 : Nat)]) rfl (by kernel_rfl) (by kernel_rfl) (by kernel_rfl) (fun _ _ _ h => h) (Or.inl ⟨by kernel_rfl, ?_⟩) HY0.out ?_
  · intro X hS; obtain ⟨_, _, hS3, hS4, hS5, hS6⟩ := hS; obtain ⟨⟨z0, z1, z2, z3⟩, _⟩ := blk4 hS4; clear hS3 hS4 hS5 hS6; go_simp
  try simp only [Act.put]
  refine wpAnyH_take (i := 3) (v := .agg #[.int .u64 (sw (rng 48 57) 0 : Nat), .int .u64 (sw (rng 48 57) 1 : Nat), .int .u64 (sw (rng 48 57) 2 : Nat), .int .u64 (sw (rng 48 57) 3 : Nat)]) rfl (by kernel_rfl) (by kernel_rfl) (by kernel_rfl) (fun _ _ _ h => h) (Or.inl ⟨by kernel_rfl, ?_⟩) HY0.out ?_
  · intro X hS; obtain ⟨_, _, hS3, hS4, hS5, hS6⟩ := hS; obtain ⟨⟨z0, z1, z2, z3⟩, _⟩ := blk4 hS5; clear hS3 hS4 hS5 hS6; go_simp
  try simp only [Act.put]
  have HYX0 := HY0
  have HBX0 := HBV
  refine wpAnyH_all (rs := [2, 5]) (by kernel_rfl) (by simp) ?_
  intro ii hii
  simp only [List.mem_cons, List.not_mem_nil, or_false] at hii
  rcases hii with rfl | rfl
  · skip
    refine wpOp_step (by rfl) ?_
    intro K' hK'
    go_simp
    go_at_call 25
    refine (Y1 _).out.mono ?_
    rintro e A1 ⟨rfl, hbc⟩
    have HYA1 := Lib.hid (HYX0.out.nxt hbc)
    have HBA1 := Lib.hid (HBX0.out.trans (hbc.mono (bsz HBX0.out)))
    clear hbc
    unfold SV
    refine hK' _ _ ⟨HYA1.out, ?_⟩
    clear hK'
    refine wpAnyH_all (rs := [4, 5]) (by kernel_rfl) (by simp) ?_
    intro ii hii
    simp only [List.mem_cons, List.not_mem_nil, or_false] at hii
    rcases hii with rfl | rfl
    · skip
      refine wpOp_step (by rfl) ?_
      intro K' hK'
      go_simp
      go_at_call 25
      refine (Y2 _).out.mono ?_
      rintro e A2 ⟨rfl, hbc⟩
      have HYA2 := Lib.hid (HYA1.out.nxt hbc)
      have HBA2 := Lib.hid (HBA1.out.trans (hbc.mono (bsz HBA1.out)))
      clear hbc
      unfold SV
      refine hK' _ _ ⟨HYA2.out, ?_⟩
      clear hK'
      refine wpAnyH_all (rs := [5]) (by kernel_rfl) (by simp) ?_
      intro ii hii
      rw [List.mem_singleton] at hii
      subst hii
      refine wpOp_step (by rfl) ?_
      intro K' hK'
      go_simp
      obtain ⟨A3, hV⟩ : ∃ V, V = A2.alloc (.cells #[.int .u64 0, .int .u64 0, .int .u64 0, .int .u64 0] 39) := ⟨_, rfl⟩
      rw [← hV]
      have HYA3 : Hid (RB w w4.heap.size A3) := Lib.hid (by rw [hV]; exact HYA2.out.nxt ((Below.refl _ _).alloc (Nat.le_refl _) _))
      have HBA3 : Hid (Below (w.heap.size + 1) (w.alloc (.cells #[.int .u64 0, .int .u64 0, .int .u64 0, .int .u64 0] 39)) A3) := Lib.hid (by rw [hV]; exact HBA2.out.trans (((Below.refl _ _).alloc (Nat.le_refl _) _).mono (bsz HBA2.out)))
      have HGA3 : Hid (A3.heap[A2.heap.size]? = some (.cells #[.int .u64 0, .int .u64 0, .int .u64 0, .int .u64 0] 39)) := Lib.hid (by rw [hV]; exact alloc_last4 _ _)
      have hg8 : w4.heap.size + 1 + 1 + 1 < A2.heap.size := lt_blk HYA2.out.2.2.2.2.2
      have hg9 : w.heap.size + 1 ≤ w4.heap.size := HYA2.out.2.1
      clear hV
      refine hK' _ _ ⟨HYA3.out, ?_⟩
      clear hK'
      obtain ⟨⟨t0, t1, t2, t3⟩, ⟨u0, u1, u2, u3⟩, uz⟩ := blk4f HGA3.out
      refine wpAnyH_all (rs := [6]) (by kernel_rfl) (by simp) ?_
      intro ii hii
      rw [List.mem_singleton] at hii
      subst hii
      refine wpOp_step (by rfl) ?_
      intro K' hK'
      go_simp
      obtain ⟨A3s, hV⟩ : ∃ V, V = (((A3.setCell ⟨A2.heap.size, 0, none⟩ (.int .u64 (sw (orP (orP (rng 97 122) (rng 65 90)) (rng 48 57)) 0 : Nat))).setCell ⟨A2.heap.size, 1, none⟩ (.int .u64 (sw (orP (orP (rng 97 122) (rng 65 90)) (rng 48 57)) 1 : Nat))).setCell ⟨A2.heap.size, 2, none⟩ (.int .u64 (sw (orP (orP (rng 97 122) (rng 65 90)) (rng 48 57)) 2 : Nat))).setCell ⟨A2.heap.size, 3, none⟩ (.int .u64 (sw (orP (orP (rng 97 122) (rng 65 90)) (rng 48 57)) 3 : Nat)) := ⟨_, rfl⟩
      rw [← hV]
      have HYA3s : Hid (RB w w4.heap.size A3s) := Lib.hid (by rw [hV]; exact (((HYA3.out.set _ 0 _ (Or.inr hg8)).set _ 1 _ (Or.inr hg8)).set _ 2 _ (Or.inr hg8)).set _ 3 _ (Or.inr hg8))
      have HBA3s : Hid (Below (w.heap.size + 1) (w.alloc (.cells #[.int .u64 0, .int .u64 0, .int .u64 0, .int .u64 0] 39)) A3s) := Lib.hid (by rw [hV]; exact (((HBA3.out.setCell (by simp; omega) _).setCell (by simp; omega) _).setCell (by simp; omega) _).setCell (by simp; omega) _)
      have HRA3s : Hid (Row4 A3s A2.heap.size 0 (orP (orP (rng 97 122) (rng 65 90)) (rng 48 57))) := Lib.hid (by rw [hV]; exact row4_put (p := noP) (orP (orP (rng 97 122) (rng 65 90)) (rng 48 57)) (row_no t0 t1 t2 t3))
      have hgz : A2.heap.size < A3s.heap.size := by rw [hV]; simpa using uz
      clear hV t0 t1 t2 t3 u0 u1 u2 u3 uz
      refine hK' _ _ ⟨HYA3s.out, ?_⟩
      clear hK'
      refine wpAnyH_done (by kernel_rfl) ?_ _
      go_wp2_with fail
      refine (Z1 _).out.mono ?_
      rintro e A3sq0 ⟨rfl, hbc⟩
      have HBA3sq0 := Lib.hid (HBA3s.out.trans (hbc.mono (bsz HBA3s.out)))
      clear hbc
      go_wp2_with fail
      refine (Z2 _).out.mono ?_
      rintro e A3sq1 ⟨rfl, hbc⟩
      have HBA3sq1 := Lib.hid (HBA3sq0.out.trans (hbc.mono (bsz HBA3sq0.out)))
      clear hbc
      unfold SV
      go_wp2_with fail
      refine (Z3 _).out.mono ?_
      rintro e A3sq2 ⟨rfl, hbc⟩
      have HBA3sq2 := Lib.hid (HBA3sq1.out.trans (hbc.mono (bsz HBA3sq1.out)))
      clear hbc
      unfold SV
      obtain ⟨r0, r1, r2, r3, s0, s1, s2, s3, rz⟩ := res_facts HBA3sq2.out (Nat.lt_succ_self _)
      go_wp2
      exact bodyPost_ret (by simp [results, Tryd.results38, go_sem, r0, r1, r2, r3]; rfl) rfl ⟨rfl, res_below HBA3sq2.out _ _ _ _⟩
    · skip
      refine wpOp_step (by rfl) ?_
      intro K' hK'
      go_simp
      obtain ⟨C2, hV⟩ : ∃ V, V = A1.alloc (.cells #[.int .u64 0, .int .u64 0, .int .u64 0, .int .u64 0] 39) := ⟨_, rfl⟩
      rw [← hV]
      have HYC2 : Hid (RB w w4.heap.size C2) := Lib.hid (by rw [hV]; exact HYA1.out.nxt ((Below.refl _ _).alloc (Nat.le_refl _) _))
      have HBC2 : Hid (Below (w.heap.size + 1) (w.alloc (.cells #[.int .u64 0, .int .u64 0, .int .u64 0, .int .u64 0] 39)) C2) := Lib.hid (by rw [hV]; exact HBA1.out.trans (((Below.refl _ _).alloc (Nat.le_refl _) _).mono (bsz HBA1.out)))
      have HGC2 : Hid (C2.heap[A1.heap.size]? = some (.cells #[.int .u64 0, .int .u64 0, .int .u64 0, .int .u64 0] 39)) := Lib.hid (by rw [hV]; exact alloc_last4 _ _)
      have hg8 : w4.heap.size + 1 + 1 + 1 < A1.heap.size := lt_blk HYA1.out.2.2.2.2.2
      have hg9 : w.heap.size + 1 ≤ w4.heap.size := HYA1.out.2.1
      clear hV
      refine hK' _ _ ⟨HYC2.out, ?_⟩
      clear hK'
      refine wpAnyH_all (rs := [4]) (by kernel_rfl) (by simp) ?_
      intro ii hii
      rw [List.mem_singleton] at hii
      subst hii
      refine wpOp_step (by rfl) ?_
      intro K' hK'
      go_simp
      go_at_call 25
      refine (Y2 _).out.mono ?_
      rintro e C3 ⟨rfl, hbc⟩
      have HYC3 := Lib.hid (HYC2.out.nxt hbc)
      have HBC3 := Lib.hid (HBC2.out.trans (hbc.mono (bsz HBC2.out)))
      have HGC3 := Lib.hid ((hbc.block _ (lt_blk HGC2.out)).trans HGC2.out)
      clear hbc
      unfold SV
      refine hK' _ _ ⟨HYC3.out, ?_⟩
      clear hK'
      obtain ⟨⟨t0, t1, t2, t3⟩, ⟨u0, u1, u2, u3⟩, uz⟩ := blk4f HGC3.out
      refine wpAnyH_all (rs := [6]) (by kernel_rfl) (by simp) ?_
      intro ii hii
      rw [List.mem_singleton] at hii
      subst hii
      refine wpOp_step (by rfl) ?_
      intro K' hK'
      go_simp
      obtain ⟨C3s, hV⟩ : ∃ V, V = (((C3.setCell ⟨A1.heap.size, 0, none⟩ (.int .u64 (sw (orP (orP (rng 97 122) (rng 65 90)) (rng 48 57)) 0 : Nat))).setCell ⟨A1.heap.size, 1, none⟩ (.int .u64 (sw (orP (orP (rng 97 122) (rng 65 90)) (rng 48 57)) 1 : Nat))).setCell ⟨A1.heap.size, 2, none⟩ (.int .u64 (sw (orP (orP (rng 97 122) (rng 65 90)) (rng 48 57)) 2 : Nat))).setCell ⟨A1.heap.size, 3, none⟩ (.int .u64 (sw (orP (orP (rng 97 122) (rng 65 90)) (rng 48 57)) 3 : Nat)) := ⟨_, rfl⟩
      rw [← hV]
      have HYC3s : Hid (RB w w4.heap.size C3s) := Lib.hid (by rw [hV]; exact (((HYC3.out.set _ 0 _ (Or.inr hg8)).set _ 1 _ (Or.inr hg8)).set _ 2 _ (Or.inr hg8)).set _ 3 _ (Or.inr hg8))
      have HBC3s : Hid (Below (w.heap.size + 1) (w.alloc (.cells #[.int .u64 0, .int .u64 0, .int .u64 0, .int .u64 0] 39)) C3s) := Lib.hid (by rw [hV]; exact (((HBC3.out.setCell (by simp; omega) _).setCell (by simp; omega) _).setCell (by simp; omega) _).setCell (by simp; omega) _)
      have HRC3s : Hid (Row4 C3s A1.heap.size 0 (orP (orP (rng 97 122) (rng 65 90)) (rng 48 57))) := Lib.hid (by rw [hV]; exact row4_put (p := noP) (orP (orP (rng 97 122) (rng 65 90)) (rng 48 57)) (row_no t0 t1 t2 t3))
      have hgz : A1.heap.size < C3s.heap.size := by rw [hV]; simpa using uz
      clear hV t0 t1 t2 t3 u0 u1 u2 u3 uz
      refine hK' _ _ ⟨HYC3s.out, ?_⟩
      clear hK'
      refine wpAnyH_done (by kernel_rfl) ?_ _
      go_wp2_with fail
      refine (Z1 _).out.mono ?_
      rintro e C3sq0 ⟨rfl, hbc⟩
      have HBC3sq0 := Lib.hid (HBC3s.out.trans (hbc.mono (bsz HBC3s.out)))
      clear hbc
      go_wp2_with fail
      refine (Z2 _).out.mono ?_
      rintro e C3sq1 ⟨rfl, hbc⟩
      have HBC3sq1 := Lib.hid (HBC3sq0.out.trans (hbc.mono (bsz HBC3sq0.out)))
      clear hbc
      unfold SV
      go_wp2_with fail
      refine (Z3 _).out.mono ?_
      rintro e C3sq2 ⟨rfl, hbc⟩
      have HBC3sq2 := Lib.hid (HBC3sq1.out.trans (hbc.mono (bsz HBC3sq1.out)))
      clear hbc
      unfold SV
      obtain ⟨r0, r1, r2, r3, s0, s1, s2, s3, rz⟩ := res_facts HBC3sq2.out (Nat.lt_succ_self _)
      go_wp2
      exact bodyPost_ret (by simp [results, Tryd.results38, go_sem, r0, r1, r2, r3]; rfl) rfl ⟨rfl, res_below HBC3sq2.out _ _ _ _⟩
  · skip
    refine wpOp_step (by rfl) ?_
    intro K' hK'
    go_simp
    obtain ⟨D1, hV⟩ : ∃ V, V = X0.alloc (.cells #[.int .u64 0, .int .u64 0, .int .u64 0, .int .u64 0] 39) := ⟨_, rfl⟩
    rw [← hV]
    have HYD1 : Hid (RB w w4.heap.size D1) := Lib.hid (by rw [hV]; exact HYX0.out.nxt ((Below.refl _ _).alloc (Nat.le_refl _) _))
    have HBD1 : Hid (Below (w.heap.size + 1) (w.alloc (.cells #[.int .u64 0, .int .u64 0, .int .u64 0, .int .u64 0] 39)) D1) := Lib.hid (by rw [hV]; exact HBX0.out.trans (((Below.refl _ _).alloc (Nat.le_refl _) _).mono (bsz HBX0.out)))
    have HGD1 : Hid (D1.heap[X0.heap.size]? = some (.cells #[.int .u64 0, .int .u64 0, .int .u64 0, .int .u64 0] 39)) := Lib.hid (by rw [hV]; exact alloc_last4 _ _)
    have hg8 : w4.heap.size + 1 + 1 + 1 < X0.heap.size := lt_blk HYX0.out.2.2.2.2.2
    have hg9 : w.heap.size + 1 ≤ w4.heap.size := HYX0.out.2.1
    clear hV
    refine hK' _ _ ⟨HYD1.out, ?_⟩
    clear hK'
    refine wpAnyH_all (rs := [2]) (by kernel_rfl) (by simp) ?_
    intro ii hii
    rw [List.mem_singleton] at hii
    subst hii
    refine wpOp_step (by rfl) ?_
    intro K' hK'
    go_simp
    go_at_call 25
    refine (Y1 _).out.mono ?_
    rintro e D2 ⟨rfl, hbc⟩
    have HYD2 := Lib.hid (HYD1.out.nxt hbc)
    have HBD2 := Lib.hid (HBD1.out.trans (hbc.mono (bsz HBD1.out)))
    have HGD2 := Lib.hid ((hbc.block _ (lt_blk HGD1.out)).trans HGD1.out)
    clear hbc
    unfold SV
    refine hK' _ _ ⟨HYD2.out, ?_⟩
    clear hK'
    refine wpAnyH_all (rs := [4]) (by kernel_rfl) (by simp) ?_
    intro ii hii
    rw [List.mem_singleton] at hii
    subst hii
    refine wpOp_step (by rfl) ?_
    intro K' hK'
    go_simp
    go_at_call 25
    refine (Y2 _).out.mono ?_
    rintro e D3 ⟨rfl, hbc⟩
    have HYD3 := Lib.hid (HYD2.out.nxt hbc)
    have HBD3 := Lib.hid (HBD2.out.trans (hbc.mono (bsz HBD2.out)))
    have HGD3 := Lib.hid ((hbc.block _ (lt_blk HGD2.out)).trans HGD2.out)
    clear hbc
    unfold SV
    refine hK' _ _ ⟨HYD3.out, ?_⟩
    clear hK'
    obtain ⟨⟨t0, t1, t2, t3⟩, ⟨u0, u1, u2, u3⟩, uz⟩ := blk4f HGD3.out
    refine wpAnyH_all (rs := [6]) (by kernel_rfl) (by simp) ?_
    intro ii hii
    rw [List.mem_singleton] at hii
    subst hii
    refine wpOp_step (by rfl) ?_
    intro K' hK'
    go_simp
    obtain ⟨D3s, hV⟩ : ∃ V, V = (((D3.setCell ⟨X0.heap.size, 0, none⟩ (.int .u64 (sw (orP (orP (rng 97 122) (rng 65 90)) (rng 48 57)) 0 : Nat))).setCell ⟨X0.heap.size, 1, none⟩ (.int .u64 (sw (orP (orP (rng 97 122) (rng 65 90)) (rng 48 57)) 1 : Nat))).setCell ⟨X0.heap.size, 2, none⟩ (.int .u64 (sw (orP (orP (rng 97 122) (rng 65 90)) (rng 48 57)) 2 : Nat))).setCell ⟨X0.heap.size, 3, none⟩ (.int .u64 (sw (orP (orP (rng 97 122) (rng 65 90)) (rng 48 57)) 3 : Nat)) := ⟨_, rfl⟩
    rw [← hV]
    have HYD3s : Hid (RB w w4.heap.size D3s) := Lib.hid (by rw [hV]; exact (((HYD3.out.set _ 0 _ (Or.inr hg8)).set _ 1 _ (Or.inr hg8)).set _ 2 _ (Or.inr hg8)).set _ 3 _ (Or.inr hg8))
    have HBD3s : Hid (Below (w.heap.size + 1) (w.alloc (.cells #[.int .u64 0, .int .u64 0, .int .u64 0, .int .u64 0] 39)) D3s) := Lib.hid (by rw [hV]; exact (((HBD3.out.setCell (by simp; omega) _).setCell (by simp; omega) _).setCell (by simp; omega) _).setCell (by simp; omega) _)
    have HRD3s : Hid (Row4 D3s X0.heap.size 0 (orP (orP (rng 97 122) (rng 65 90)) (rng 48 57))) := Lib.hid (by rw [hV]; exact row4_put (p := noP) (orP (orP (rng 97 122) (rng 65 90)) (rng 48 57)) (row_no t0 t1 t2 t3))
    have hgz : X0.heap.size < D3s.heap.size := by rw [hV]; simpa using uz
    clear hV t0 t1 t2 t3 u0 u1 u2 u3 uz
    refine hK' _ _ ⟨HYD3s.out, ?_⟩
    clear hK'
    refine wpAnyH_done (by kernel_rfl) ?_ _
    go_wp2_with fail
    refine (Z1 _).out.mono ?_
    rintro e D3sq0 ⟨rfl, hbc⟩
    have HBD3sq0 := Lib.hid (HBD3s.out.trans (hbc.mono (bsz HBD3s.out)))
    clear hbc
    go_wp2_with fail
    refine (Z2 _).out.mono ?_
    rintro e D3sq1 ⟨rfl, hbc⟩
    have HBD3sq1 := Lib.hid (HBD3sq0.out.trans (hbc.mono (bsz HBD3sq0.out)))
    clear hbc
    unfold SV
    go_wp2_with fail
    refine (Z3 _).out.mono ?_
    rintro e D3sq2 ⟨rfl, hbc⟩
    have HBD3sq2 := Lib.hid (HBD3sq1.out.trans (hbc.mono (bsz HBD3sq1.out)))
    clear hbc
    unfold SV
    obtain ⟨r0, r1, r2, r3, s0, s1, s2, s3, rz⟩ := res_facts HBD3sq2.out (Nat.lt_succ_self _)
    go_wp2
    exact bodyPost_ret (by simp [results, Tryd.results38, go_sem, r0, r1, r2, r3]; rfl) rfl ⟨rfl, res_below HBD3sq2.out _ _ _ _⟩

set_option maxRecDepth 100000 in
set_option maxHeartbeats 16000000 in
theorem rclass_cntrl (w : World) :
    Calls Tryd.prog 38 #[.string ⟨#[99, 110, 116, 114, 108]⟩] w fun e w' => e = .returned (.tuple #[SV (orP (rng 0 31) (rng 127 127)), .bool true]) ∧ Below w.heap.size w w' := by
  have X1 : ∀ w, Hid (Calls Tryd.prog 26 #[.int .u8 97, .int .u8 122] w fun e w' => e = .returned (SV (rng 97 122)) ∧ Below w.heap.size w w') := fun w => Lib.hid (rrange_any 97 122 (by omega) (by omega) w)
  have X2 : ∀ w, Hid (Calls Tryd.prog 26 #[.int .u8 65, .int .u8 90] w fun e w' => e = .returned (SV (rng 65 90)) ∧ Below w.heap.size w w') := fun w => Lib.hid (rrange_any 65 90 (by omega) (by omega) w)
  have X3 : ∀ w, Hid (Calls Tryd.prog 26 #[.int .u8 48, .int .u8 57] w fun e w' => e = .returned (SV (rng 48 57)) ∧ Below w.heap.size w w') := fun w => Lib.hid (rrange_any 48 57 (by omega) (by omega) w)
  have X4 : ∀ w, Hid (Calls Tryd.prog 26 #[.int .u8 33, .int .u8 126] w fun e w' => e = .returned (SV (rng 33 126)) ∧ Below w.heap.size w w') := fun w => Lib.hid (rrange_any 33 126 (by omega) (by omega) w)
  have Y1 : ∀ w, Hid (Calls Tryd.prog 25 #[.agg #[.int .u64 (sw (rng 97 122) 0 : Nat), .int .u64 (sw (rng 97 122) 1 : Nat), .int .u64 (sw (rng 97 122) 2 : Nat), .int .u64 (sw (rng 97 122) 3 : Nat)], .agg #[.int .u64 (sw (rng 65 90) 0 : Nat), .int .u64 (sw (rng 65 90) 1 : Nat), .int .u64 (sw (rng 65 90) 2 : Nat), .int .u64 (sw (rng 65 90) 3 : Nat)]] w fun e w' => e = .returned (SV (orP (rng 97 122) (rng 65 90))) ∧ Below w.heap.size w w') := fun w => Lib.hid (ror_any (rng 97 122) (rng 65 90) w)
  have Y2 : ∀ w, Hid (Calls Tryd.prog 25 #[.agg #[.int .u64 (sw (orP (rng 97 122) (rng 65 90)) 0 : Nat), .int .u64 (sw (orP (rng 97 122) (rng 65 90)) 1 : Nat), .int .u64 (sw (orP (rng 97 122) (rng 65 90)) 2 : Nat), .int .u64 (sw (orP (rng 97 122) (rng 65 90)) 3 : Nat)], .agg #[.int .u64 (sw (rng 48 57) 0 : Nat), .int .u64 (sw (rng 48 57) 1 : Nat), .int .u64 (sw (rng 48 57) 2 : Nat), .int .u64 (sw (rng 48 57) 3 : Nat)]] w fun e w' => e = .returned (SV (orP (orP (rng 97 122) (rng 65 90)) (rng 48 57))) ∧ Below w.heap.size w w') := fun w => Lib.hid (ror_any (orP (rng 97 122) (rng 65 90)) (rng 48 57) w)
  have Z1 : ∀ w, Hid (Calls Tryd.prog 26 #[.int .u8 0, .int .u8 31] w fun e w' => e = .returned (SV (rng 0 31)) ∧ Below w.heap.size w w') := fun w => Lib.hid (rrange_any 0 31 (by omega) (by omega) w)
  have Z2 : ∀ w, Hid (Calls Tryd.prog 26 #[.int .u8 127, .int .u8 127] w fun e w' => e = .returned (SV (rng 127 127)) ∧ Below w.heap.size w w') := fun w => Lib.hid (rrange_any 127 127 (by omega) (by omega) w)
  have Z3 : ∀ w, Hid (Calls Tryd.prog 25 #[.agg #[.int .u64 (sw (rng 0 31) 0 : Nat), .int .u64 (sw (rng 0 31) 1 : Nat), .int .u64 (sw (rng 0 31) 2 : Nat), .int .u64 (sw (rng 0 31) 3 : Nat)], .agg #[.int .u64 (sw (rng 127 127) 0 : Nat), .int .u64 (sw (rng 127 127) 1 : Nat), .int .u64 (sw (rng 127 127) 2 : Nat), .int .u64 (sw (rng 127 127) 3 : Nat)]] w fun e w' => e = .returned (SV (orP (rng 0 31) (rng 127 127))) ∧ Below w.heap.size w w') := fun w => Lib.hid (ror_any (rng 0 31) (rng 127 127) w)
  go_enter Tryd.func38, Tryd.ntmps38
  go_wp2_with fail
  have HB0 : Hid (Below (w.heap.size + 1) (w.alloc (.cells #[.int .u64 0, .int .u64 0, .int .u64 0, .int .u64 0] 39)) (w.alloc (.cells #[.int .u64 0, .int .u64 0, .int .u64 0, .int .u64 0] 39))) := Lib.hid (Below.refl _ _)
  refine (X1 _).out.mono ?_
  rintro e w1 ⟨rfl, hb1⟩
  have HB1 := Lib.hid (HB0.out.trans (hb1.mono (bsz HB0.out)))
  clear hb1
  go_wp2_with fail
  refine (X2 _).out.mono ?_
  rintro e w2 ⟨rfl, hb2⟩
  have HB2 := Lib.hid (HB1.out.trans (hb2.mono (bsz HB1.out)))
  clear hb2
  go_wp2_with fail
  refine (X3 _).out.mono ?_
  rintro e w3 ⟨rfl, hb3⟩
  have HB3 := Lib.hid (HB2.out.trans (hb3.mono (bsz HB2.out)))
  clear hb3
  go_wp2_with fail
  refine (X4 _).out.mono ?_
  rintro e w4 ⟨rfl, hb4⟩
  have HB4 := Lib.hid (HB3.out.trans (hb4.mono (bsz HB3.out)))
  clear hb4
  unfold SV
  go_wp2_with fail
  have HKS := RB.start w w4 HB4.out
  have HBW := Lib.hid ((((HB4.out.alloc (bsz HB4.out) (.cells #[.int .u64 (sw (rng 97 122) 0 : Nat), .int .u64 (sw (rng 97 122) 1 : Nat), .int .u64 (sw (rng 97 122) 2 : Nat), .int .u64 (sw (rng 97 122) 3 : Nat)] 39)).alloc (by have := HB4.out.size; simp at this; simp; omega) (.cells #[.int .u64 (sw (rng 65 90) 0 : Nat), .int .u64 (sw (rng 65 90) 1 : Nat), .int .u64 (sw (rng 65 90) 2 : Nat), .int .u64 (sw (rng 65 90) 3 : Nat)] 39)).alloc (by have := HB4.out.size; simp at this; simp; omega) (.cells #[.int .u64 (sw (rng 48 57) 0 : Nat), .int .u64 (sw (rng 48 57) 1 : Nat), .int .u64 (sw (rng 48 57) 2 : Nat), .int .u64 (sw (rng 48 57) 3 : Nat)] 39)).alloc (by have := HB4.out.size; simp at this; simp; omega) (.cells #[.int .u64 (sw (rng 33 126) 0 : Nat), .int .u64 (sw (rng 33 126) 1 : Nat), .int .u64 (sw (rng 33 126) 2 : Nat), .int .u64 (sw (rng 33 126) 3 : Nat)] 39))
  obtain ⟨V, hV⟩ : ∃ V, V = (((w4.alloc (.cells #[.int .u64 (sw (rng 97 122) 0 : Nat), .int .u64 (sw (rng 97 122) 1 : Nat), .int .u64 (sw (rng 97 122) 2 : Nat), .int .u64 (sw (rng 97 122) 3 : Nat)] 39)).alloc (.cells #[.int .u64 (sw (rng 65 90) 0 : Nat), .int .u64 (sw (rng 65 90) 1 : Nat), .int .u64 (sw (rng 65 90) 2 : Nat), .int .u64 (sw (rng 65 90) 3 : Nat)] 39)).alloc (.cells #[.int .u64 (sw (rng 48 57) 0 : Nat), .int .u64 (sw (rng 48 57) 1 : Nat), .int .u64 (sw (rng 48 57) 2 : Nat), .int .u64 (sw (rng 48 57) 3 : Nat)] 39)).alloc (.cells #[.int .u64 (sw (rng 33 126) 0 : Nat), .int .u64 (sw (rng 33 126) 1 : Nat), .int .u64 (sw (rng 33 126) 2 : Nat), .int .u64 (sw (rng 33 126) 3 : Nat)] 39) := ⟨_, rfl⟩
  rw [← hV] at HKS HBW ⊢
  clear hV
  have HY0 : Hid (RB w w4.heap.size V.drew) := Lib.hid (HKS.nxt (Below.refl _ _).drew)
  have HBV : Hid (Below (w.heap.size + 1) (w.alloc (.cells #[.int .u64 0, .int .u64 0, .int .u64 0, .int .u64 0] 39)) V.drew) := Lib.hid HBW.out.drew
  clear HKS HBW
  refine wp_region_held (S := fun X => RB w w4.heap.size X) (by kernel_rfl) ?_
  try (change wpAnyH _ _ _ _ _ _ _ _ (World.drew _))
  generalize V.drew = X0 at *
  refine wpAnyH_take (i := 0) (v := .agg #[.int .u64 (sw (rng 97 122) 0 : Nat), .int .u64 (sw (rng 97 122) 1 : Nat), .int .u64 (sw (rng 97 122) 2 : Nat), .int .u64 (sw (rng 97 122) 3 : Nat)]) rfl (by kernel_rfl) (by kernel_rfl) (by kernel_rfl) (fun _ _ _ h => h) (Or.inl ⟨by kernel_rfl, ?_⟩) HY0.out ?_
  · intro X hS; obtain ⟨_, _, hS3, hS4, hS5, hS6⟩ := hS; obtain ⟨⟨z0, z1, z2, z3⟩, _⟩ := blk4 hS3; clear hS3 hS4 hS5 hS6; go_simp
  try simp only [Act.put, List.setIfInBounds_toArray]
  refine wpAnyH_take (i := 1) (v := .agg #[.int .u64 (sw (rng 65 90) 0 : Nat), .int .u64 (sw (rng 65 90) 1 : Nat), .int .u64 (sw (rng 65 90) 2 : Nat), .int .u64 (sw (rng 65 90) 3 : Nat)]) rfl (by kernel_rfl) (by kernel_rfl) (by kernel_rfl) (fun _ _ _ h => h) (Or.inl ⟨by kernel_rfl, ?_⟩) HY0.out ?_
  · intro X hS; obtain ⟨_, _, hS3, hS4, hS5, hS6⟩ := hS; obtain ⟨⟨z0, z1, z2, z3⟩, _⟩ := blk4 hS4; clear hS3 hS4 hS5 hS6; go_simp
  try simp only [Act.put]
  refine wpAnyH_take (i := 3) (v := .agg #[.int .u64 (sw (rng 48 57) 0 : Nat), .int .u64 (sw (rng 48 57) 1 : Nat), .int .u64 (sw (rng 48 57) 2 : Nat), .int .u64 (sw (rng 48 57) 3 : Nat)]) rfl (by kernel_rfl) (by kernel_rfl) (by kernel_rfl) (fun _ _ _ h => h) (Or.inl ⟨by kernel_rfl, ?_⟩) HY0.out ?_
  · intro X hS; obtain ⟨_, _, hS3, hS4, hS5, hS6⟩ := hS; obtain ⟨⟨z0, z1, z2, z3⟩, _⟩ := blk4 hS5; clear hS3 hS4 hS5 hS6; go_simp
  try simp only [Act.put]
  have HYX0 := HY0
  have HBX0 := HBV
  refine wpAnyH_all (rs := [2, 5]) (by kernel_rfl) (by simp) ?_
  intro ii hii
  simp only [List.mem_cons, List.not_mem_nil, or_false] at hii
  rcases hii with rfl | rfl
  · skip
    refine wpOp_step (by rfl) ?_
    intro K' hK'
    go_simp
    go_at_call 25
    refine (Y1 _).out.mono ?_
    rintro e A1 ⟨rfl, hbc⟩
    have HYA1 := Lib.hid (HYX0.out.nxt hbc)
    have HBA1 := Lib.hid (HBX0.out.trans (hbc.mono (bsz HBX0.out)))
    clear hbc
    unfold SV
    refine hK' _ _ ⟨HYA1.out, ?_⟩
    clear hK'
    refine wpAnyH_all (rs := [4, 5]) (by kernel_rfl) (by simp) ?_
    intro ii hii
    simp only [List.mem_cons, List.not_mem_nil, or_false] at hii
    rcases hii with rfl | rfl
    · skip
      refine wpOp_step (by rfl) ?_
      intro K' hK'
      go_simp
      go_at_call 25
      refine (Y2 _).out.mono ?_
      rintro e A2 ⟨rfl, hbc⟩
      have HYA2 := Lib.hid (HYA1.out.nxt hbc)
      have HBA2 := Lib.hid (HBA1.out.trans (hbc.mono (bsz HBA1.out)))
      clear hbc
      unfold SV
      refine hK' _ _ ⟨HYA2.out, ?_⟩
      clear hK'
      refine wpAnyH_all (rs := [5]) (by kernel_rfl) (by simp) ?_
      intro ii hii
      rw [List.mem_singleton] at hii
      subst hii
      refine wpOp_step (by rfl) ?_
      intro K' hK'
      go_simp
      obtain ⟨A3, hV⟩ : ∃ V, V = A2.alloc (.cells #[.int .u64 0, .int .u64 0, .int .u64 0, .int .u64 0] 39) := ⟨_, rfl⟩
      rw [← hV]
      have HYA3 : Hid (RB w w4.heap.size A3) := Lib.hid (by rw [hV]; exact HYA2.out.nxt ((Below.refl _ _).alloc (Nat.le_refl _) _))
      have HBA3 : Hid (Below (w.heap.size + 1) (w.alloc (.cells #[.int .u64 0, .int .u64 0, .int .u64 0, .int .u64 0] 39)) A3) := Lib.hid (by rw [hV]; exact HBA2.out.trans (((Below.refl _ _).alloc (Nat.le_refl _) _).mono (bsz HBA2.out)))
      have HGA3 : Hid (A3.heap[A2.heap.size]? = some (.cells #[.int .u64 0, .int .u64 0, .int .u64 0, .int .u64 0] 39)) := Lib.hid (by rw [hV]; exact alloc_last4 _ _)
      have hg8 : w4.heap.size + 1 + 1 + 1 < A2.heap.size := lt_blk HYA2.out.2.2.2.2.2
      have hg9 : w.heap.size + 1 ≤ w4.heap.size := HYA2.out.2.1
      clear hV
      refine hK' _ _ ⟨HYA3.out, ?_⟩
      clear hK'
      obtain ⟨⟨t0, t1, t2, t3⟩, ⟨u0, u1, u2, u3⟩, uz⟩ := blk4f HGA3.out
      refine wpAnyH_all (rs := [6]) (by kernel_rfl) (by simp) ?_
      intro ii hii
      rw [List.mem_singleton] at hii
      subst hii
      refine wpOp_step (by rfl) ?_
      intro K' hK'
      go_simp
      obtain ⟨A3s, hV⟩ : ∃ V, V = (((A3.setCell ⟨A2.heap.size, 0, none⟩ (.int .u64 (sw (orP (orP (rng 97 122) (rng 65 90)) (rng 48 57)) 0 : Nat))).setCell ⟨A2.heap.size, 1, none⟩ (.int .u64 (sw (orP (orP (rng 97 122) (rng 65 90)) (rng 48 57)) 1 : Nat))).setCell ⟨A2.heap.size, 2, none⟩ (.int .u64 (sw (orP (orP (rng 97 122) (rng 65 90)) (rng 48 57)) 2 : Nat))).setCell ⟨A2.heap.size, 3, none⟩ (.int .u64 (sw (orP (orP (rng 97 122) (rng 65 90)) (rng 48 57)) 3 : Nat)) := ⟨_, rfl⟩
      rw [← hV]
      have HYA3s : Hid (RB w w4.heap.size A3s) := Lib.hid (by rw [hV]; exact (((HYA3.out.set _ 0 _ (Or.inr hg8)).set _ 1 _ (Or.inr hg8)).set _ 2 _ (Or.inr hg8)).set _ 3 _ (Or.inr hg8))
      have HBA3s : Hid (Below (w.heap.size + 1) (w.alloc (.cells #[.int .u64 0, .int .u64 0, .int .u64 0, .int .u64 0] 39)) A3s) := Lib.hid (by rw [hV]; exact (((HBA3.out.setCell (by simp; omega) _).setCell (by simp; omega) _).setCell (by simp; omega) _).setCell (by simp; omega) _)
      have HRA3s : Hid (Row4 A3s A2.heap.size 0 (orP (orP (rng 97 122) (rng 65 90)) (rng 48 57))) := Lib.hid (by rw [hV]; exact row4_put (p := noP) (orP (orP (rng 97 122) (rng 65 90)) (rng 48 57)) (row_no t0 t1 t2 t3))
      have hgz : A2.heap.size < A3s.heap.size := by rw [hV]; simpa using uz
      clear hV t0 t1 t2 t3 u0 u1 u2 u3 uz
      refine hK' _ _ ⟨HYA3s.out, ?_⟩
      clear hK'
      refine wpAnyH_done (by kernel_rfl) ?_ _
      go_wp2_with fail
      refine (Z1 _).out.mono ?_
      rintro e A3sq0 ⟨rfl, hbc⟩
      have HBA3sq0 := Lib.hid (HBA3s.out.trans (hbc.mono (bsz HBA3s.out)))
      clear hbc
      go_wp2_with fail
      refine (Z2 _).out.mono ?_
      rintro e A3sq1 ⟨rfl, hbc⟩
      have HBA3sq1 := Lib.hid (HBA3sq0.out.trans (hbc.mono (bsz HBA3sq0.out)))
      clear hbc
      unfold SV
      go_wp2_with fail
      refine (Z3 _).out.mono ?_
      rintro e A3sq2 ⟨rfl, hbc⟩
      have HBA3sq2 := Lib.hid (HBA3sq1.out.trans (hbc.mono (bsz HBA3sq1.out)))
      clear hbc
      unfold SV
      obtain ⟨r0, r1, r2, r3, s0, s1, s2, s3, rz⟩ := res_facts HBA3sq2.out (Nat.lt_succ_self _)
      go_wp2
      exact bodyPost_ret (by simp [results, Tryd.results38, go_sem, r0, r1, r2, r3]; rfl) rfl ⟨rfl, res_below HBA3sq2.out _ _ _ _⟩
    · skip
      refine wpOp_step (by rfl) ?_
      intro K' hK'
      go_simp
      obtain ⟨C2, hV⟩ : ∃ V, V = A1.alloc (.cells #[.int .u64 0, .int .u64 0, .int .u64 0, .int .u64 0] 39) := ⟨_, rfl⟩
      rw [← hV]
      have HYC2 : Hid (RB w w4.heap.size C2) := Lib.hid (by rw [hV]; exact HYA1.out.nxt ((Below.refl _ _).alloc (Nat.le_refl _) _))
      have HBC2 : Hid (Below (w.heap.size + 1) (w.alloc (.cells #[.int .u64 0, .int .u64 0, .int .u64 0, .int .u64 0] 39)) C2) := Lib.hid (by rw [hV]; exact HBA1.out.trans (((Below.refl _ _).alloc (Nat.le_refl _) _).mono (bsz HBA1.out)))
      have HGC2 : Hid (C2.heap[A1.heap.size]? = some (.cells #[.int .u64 0, .int .u64 0, .int .u64 0, .int .u64 0] 39)) := Lib.hid (by rw [hV]; exact alloc_last4 _ _)
      have hg8 : w4.heap.size + 1 + 1 + 1 < A1.heap.size := lt_blk HYA1.out.2.2.2.2.2
      have hg9 : w.heap.size + 1 ≤ w4.heap.size := HYA1.out.2.1
      clear hV
      refine hK' _ _ ⟨HYC2.out, ?_⟩
      clear hK'
      refine wpAnyH_all (rs := [4]) (by kernel_rfl) (by simp) ?_
      intro ii hii
      rw [List.mem_singleton] at hii
      subst hii
      refine wpOp_step (by rfl) ?_
      intro K' hK'
      go_simp
      go_at_call 25
      refine (Y2 _).out.mono ?_
      rintro e C3 ⟨rfl, hbc⟩
      have HYC3 := Lib.hid (HYC2.out.nxt hbc)
      have HBC3 := Lib.hid (HBC2.out.trans (hbc.mono (bsz HBC2.out)))
      have HGC3 := Lib.hid ((hbc.block _ (lt_blk HGC2.out)).trans HGC2.out)
      clear hbc
      unfold SV
      refine hK' _ _ ⟨HYC3.out, ?_⟩
      clear hK'
      obtain ⟨⟨t0, t1, t2, t3⟩, ⟨u0, u1, u2, u3⟩, uz⟩ := blk4f HGC3.out
      refine wpAnyH_all (rs := [6]) (by kernel_rfl) (by simp) ?_
      intro ii hii
      rw [List.mem_singleton] at hii
      subst hii
      refine wpOp_step (by rfl) ?_
      intro K' hK'
      go_simp
      obtain ⟨C3s, hV⟩ : ∃ V, V = (((C3.setCell ⟨A1.heap.size, 0, none⟩ (.int .u64 (sw (orP (orP (rng 97 122) (rng 65 90)) (rng 48 57)) 0 : Nat))).setCell ⟨A1.heap.size, 1, none⟩ (.int .u64 (sw (orP (orP (rng 97 122) (rng 65 90)) (rng 48 57)) 1 : Nat))).setCell ⟨A1.heap.size, 2, none⟩ (.int .u64 (sw (orP (orP (rng 97 122) (rng 65 90)) (rng 48 57)) 2 : Nat))).setCell ⟨A1.heap.size, 3, none⟩ (.int .u64 (sw (orP (orP (rng 97 122) (rng 65 90)) (rng 48 57)) 3 : Nat)) := ⟨_, rfl⟩
      rw [← hV]
      have HYC3s : Hid (RB w w4.heap.size C3s) := Lib.hid (by rw [hV]; exact (((HYC3.out.set _ 0 _ (Or.inr hg8)).set _ 1 _ (Or.inr hg8)).set _ 2 _ (Or.inr hg8)).set _ 3 _ (Or.inr hg8))
      have HBC3s : Hid (Below (w.heap.size + 1) (w.alloc (.cells #[.int .u64 0, .int .u64 0, .int .u64 0, .int .u64 0] 39)) C3s) := Lib.hid (by rw [hV]; exact (((HBC3.out.setCell (by simp; omega) _).setCell (by simp; omega) _).setCell (by simp; omega) _).setCell (by simp; omega) _)
      have HRC3s : Hid (Row4 C3s A1.heap.size 0 (orP (orP (rng 97 122) (rng 65 90)) (rng 48 57))) := Lib.hid (by rw [hV]; exact row4_put (p := noP) (orP (orP (rng 97 122) (rng 65 90)) (rng 48 57)) (row_no t0 t1 t2 t3))
      have hgz : A1.heap.size < C3s.heap.size := by rw [hV]; simpa using uz
      clear hV t0 t1 t2 t3 u0 u1 u2 u3 uz
      refine hK' _ _ ⟨HYC3s.out, ?_⟩
      clear hK'
      refine wpAnyH_done (by kernel_rfl) ?_ _
      go_wp2_with fail
      refine (Z1 _).out.mono ?_
      rintro e C3sq0 ⟨rfl, hbc⟩
      have HBC3sq0 := Lib.hid (HBC3s.out.trans (hbc.mono (bsz HBC3s.out)))
      clear hbc
      go_wp2_with fail
      refine (Z2 _).out.mono ?_
      rintro e C3sq1 ⟨rfl, hbc⟩
      have HBC3sq1 := Lib.hid (HBC3sq0.out.trans (hbc.mono (bsz HBC3sq0.out)))
      clear hbc
      unfold SV
      go_wp2_with fail
      refine (Z3 _).out.mono ?_
      rintro e C3sq2 ⟨rfl, hbc⟩
      have HBC3sq2 := Lib.hid (HBC3sq1.out.trans (hbc.mono (bsz HBC3sq1.out)))
      clear hbc
      unfold SV
      obtain ⟨r0, r1, r2, r3, s0, s1, s2, s3, rz⟩ := res_facts HBC3sq2.out (Nat.lt_succ_self _)
      go_wp2
      exact bodyPost_ret (by simp [results, Tryd.results38, go_sem, r0, r1, r2, r3]; rfl) rfl ⟨rfl, res_below HBC3sq2.out _ _ _ _⟩
  · skip
    refine wpOp_step (by rfl) ?_
    intro K' hK'
    go_simp
    obtain ⟨D1, hV⟩ : ∃ V, V = X0.alloc (.cells #[.int .u64 0, .int .u64 0, .int .u64 0, .int .u64 0] 39) := ⟨_, rfl⟩
    rw [← hV]
    have HYD1 : Hid (RB w w4.heap.size D1) := Lib.hid (by rw [hV]; exact HYX0.out.nxt ((Below.refl _ _).alloc (Nat.le_refl _) _))
    have HBD1 : Hid (Below (w.heap.size + 1) (w.alloc (.cells #[.int .u64 0, .int .u64 0, .int .u64 0, .int .u64 0] 39)) D1) := Lib.hid (by rw [hV]; exact HBX0.out.trans (((Below.refl _ _).alloc (Nat.le_refl _) _).mono (bsz HBX0.out)))
    have HGD1 : Hid (D1.heap[X0.heap.size]? = some (.cells #[.int .u64 0, .int .u64 0, .int .u64 0, .int .u64 0] 39)) := Lib.hid (by rw [hV]; exact alloc_last4 _ _)
    have hg8 : w4.heap.size + 1 + 1 + 1 < X0.heap.size := lt_blk HYX0.out.2.2.2.2.2
    have hg9 : w.heap.size + 1 ≤ w4.heap.size := HYX0.out.2.1
    clear hV
    refine hK' _ _ ⟨HYD1.out, ?_⟩
    clear hK'
    refine wpAnyH_all (rs := [2]) (by kernel_rfl) (by simp) ?_
    intro ii hii
    rw [List.mem_singleton] at hii
    subst hii
    refine wpOp_step (by rfl) ?_
    intro K' hK'
    go_simp
    go_at_call 25
    refine (Y1 _).out.mono ?_
    rintro e D2 ⟨rfl, hbc⟩
    have HYD2 := Lib.hid (HYD1.out.nxt hbc)
    have HBD2 := Lib.hid (HBD1.out.trans (hbc.mono (bsz HBD1.out)))
    have HGD2 := Lib.hid ((hbc.block _ (lt_blk HGD1.out)).trans HGD1.out)
    clear hbc
    unfold SV
    refine hK' _ _ ⟨HYD2.out, ?_⟩
    clear hK'
    refine wpAnyH_all (rs := [4]) (by kernel_rfl) (by simp) ?_
    intro ii hii
    rw [List.mem_singleton] at hii
    subst hii
    refine wpOp_step (by rfl) ?_
    intro K' hK'
    go_simp
    go_at_call 25
    refine (Y2 _).out.mono ?_
    rintro e D3 ⟨rfl, hbc⟩
    have HYD3 := Lib.hid (HYD2.out.nxt hbc)
    have HBD3 := Lib.hid (HBD2.out.trans (hbc.mono (bsz HBD2.out)))
    have HGD3 := Lib.hid ((hbc.block _ (lt_blk HGD2.out)).trans HGD2.out)
    clear hbc
    unfold SV
    refine hK' _ _ ⟨HYD3.out, ?_⟩
    clear hK'
    obtain ⟨⟨t0, t1, t2, t3⟩, ⟨u0, u1, u2, u3⟩, uz⟩ := blk4f HGD3.out
    refine wpAnyH_all (rs := [6]) (by kernel_rfl) (by simp) ?_
    intro ii hii
    rw [List.mem_singleton] at hii
    subst hii
    refine wpOp_step (by rfl) ?_
    intro K' hK'
    go_simp
    obtain ⟨D3s, hV⟩ : ∃ V, V = (((D3.setCell ⟨X0.heap.size, 0, none⟩ (.int .u64 (sw (orP (orP (rng 97 122) (rng 65 90)) (rng 48 57)) 0 : Nat))).setCell ⟨X0.heap.size, 1, none⟩ (.int .u64 (sw (orP (orP (rng 97 122) (rng 65 90)) (rng 48 57)) 1 : Nat))).setCell ⟨X0.heap.size, 2, none⟩ (.int .u64 (sw (orP (orP (rng 97 122) (rng 65 90)) (rng 48 57)) 2 : Nat))).setCell ⟨X0.heap.size, 3, none⟩ (.int .u64 (sw (orP (orP (rng 97 122) (rng 65 90)) (rng 48 57)) 3 : Nat)) := ⟨_, rfl⟩
    rw [← hV]
    have HYD3s : Hid (RB w w4.heap.size D3s) := Lib.hid (by rw [hV]; exact (((HYD3.out.set _ 0 _ (Or.inr hg8)).set _ 1 _ (Or.inr hg8)).set _ 2 _ (Or.inr hg8)).set _ 3 _ (Or.inr hg8))
    have HBD3s : Hid (Below (w.heap.size + 1) (w.alloc (.cells #[.int .u64 0, .int .u64 0, .int .u64 0, .int .u64 0] 39)) D3s) := Lib.hid (by rw [hV]; exact (((HBD3.out.setCell (by simp; omega) _).setCell (by simp; omega) _).setCell (by simp; omega) _).setCell (by simp; omega) _)
    have HRD3s : Hid (Row4 D3s X0.heap.size 0 (orP (orP (rng 97 122) (rng 65 90)) (rng 48 57))) := Lib.hid (by rw [hV]; exact row4_put (p := noP) (orP (orP (rng 97 122) (rng 65 90)) (rng 48 57)) (row_no t0 t1 t2 t3))
    have hgz : X0.heap.size < D3s.heap.size := by rw [hV]; simpa using uz
    clear hV t0 t1 t2 t3 u0 u1 u2 u3 uz
    refine hK' _ _ ⟨HYD3s.out, ?_⟩
    clear hK'
    refine wpAnyH_done (by kernel_rfl) ?_ _
    go_wp2_with fail
    refine (Z1 _).out.mono ?_
    rintro e D3sq0 ⟨rfl, hbc⟩
    have HBD3sq0 := Lib.hid (HBD3s.out.trans (hbc.mono (bsz HBD3s.out)))
    clear hbc
    go_wp2_with fail
    refine (Z2 _).out.mono ?_
    rintro e D3sq1 ⟨rfl, hbc⟩
    have HBD3sq1 := Lib.hid (HBD3sq0.out.trans (hbc.mono (bsz HBD3sq0.out)))
    clear hbc
    unfold SV
    go_wp2_with fail
    refine (Z3 _).out.mono ?_
    rintro e D3sq2 ⟨rfl, hbc⟩
    have HBD3sq2 := Lib.hid (HBD3sq1.out.trans (hbc.mono (bsz HBD3sq1.out)))
    clear hbc
    unfold SV
    obtain ⟨r0, r1, r2, r3, s0, s1, s2, s3, rz⟩ := res_facts HBD3sq2.out (Nat.lt_succ_self _)
    go_wp2
    exact bodyPost_ret (by simp [results, Tryd.results38, go_sem, r0, r1, r2, r3]; rfl) rfl ⟨rfl, res_below HBD3sq2.out _ _ _ _⟩
end Go.Proofs.YtoodpajbefffhaaDoor
/- A set's cells, kept. -/
namespace Go.Proofs.YtoodpajbefffhaaDoor
open Go.RowKit

theorem row4_bel {w w' : World} {b : Nat} {p : Nat → Bool} (h : Row4 w b 0 p) (hb : Below w.heap.size w w') (hz : b < w.heap.size) : Row4 w' b 0 p := by
  have k : ∀ o, w'.cell? ⟨b, o, none⟩ = w.cell? ⟨b, o, none⟩ := fun o => hb.cell (p := ⟨b, o, none⟩) hz
  exact ⟨(k _).trans h.1, (k _).trans h.2.1, (k _).trans h.2.2.1, (k _).trans h.2.2.2⟩
theorem row4_far {w : World} {b g : Nat} {p : Nat → Bool} {v0 v1 v2 v3 : Value} (h : Row4 w b 0 p) (_hg : g ≠ b) :
    Row4 ((((w.setCell ⟨g, 0, none⟩ v0).setCell ⟨g, 1, none⟩ v1).setCell ⟨g, 2, none⟩ v2).setCell ⟨g, 3, none⟩ v3) b 0 p := by
  have k : ∀ (W : World) (i : Nat) (v : Value) (o : Nat), (W.setCell ⟨g, i, none⟩ v).cell? ⟨b, o, none⟩ = W.cell? ⟨b, o, none⟩ := fun W i v o => World.cell?_setCell_other _ _ _ _ (by simp)
  exact ⟨by rw [k, k, k, k]; exact h.1, by rw [k, k, k, k]; exact h.2.1, by rw [k, k, k, k]; exact h.2.2.1, by rw [k, k, k, k]; exact h.2.2.2⟩
end Go.Proofs.YtoodpajbefffhaaDoor
/- The contract of the reference's Class at print (gen_refclass.py). -/
namespace Go.Proofs.YtoodpajbefffhaaDoor
open Go.RowKit

set_option maxRecDepth 100000 in
set_option maxHeartbeats 16000000 in
theorem rclass_print (w : World) :
    Calls Tryd.prog 38 #[.string ⟨#[112, 114, 105, 110, 116]⟩] w fun e w' => e = .returned (.tuple #[SV (orP (rng 33 126) (rng 32 32)), .bool true]) ∧ Below w.heap.size w w' := by
  have X1 : ∀ w, Hid (Calls Tryd.prog 26 #[.int .u8 97, .int .u8 122] w fun e w' => e = .returned (SV (rng 97 122)) ∧ Below w.heap.size w w') := fun w => Lib.hid (rrange_any 97 122 (by omega) (by omega) w)
  have X2 : ∀ w, Hid (Calls Tryd.prog 26 #[.int .u8 65, .int .u8 90] w fun e w' => e = .returned (SV (rng 65 90)) ∧ Below w.heap.size w w') := fun w => Lib.hid (rrange_any 65 90 (by omega) (by omega) w)
  have X3 : ∀ w, Hid (Calls Tryd.prog 26 #[.int .u8 48, .int .u8 57] w fun e w' => e = .returned (SV (rng 48 57)) ∧ Below w.heap.size w w') := fun w => Lib.hid (rrange_any 48 57 (by omega) (by omega) w)
  have X4 : ∀ w, Hid (Calls Tryd.prog 26 #[.int .u8 33, .int .u8 126] w fun e w' => e = .returned (SV (rng 33 126)) ∧ Below w.heap.size w w') := fun w => Lib.hid (rrange_any 33 126 (by omega) (by omega) w)
  have Y1 : ∀ w, Hid (Calls Tryd.prog 25 #[.agg #[.int .u64 (sw (rng 97 122) 0 : Nat), .int .u64 (sw (rng 97 122) 1 : Nat), .int .u64 (sw (rng 97 122) 2 : Nat), .int .u64 (sw (rng 97 122) 3 : Nat)], .agg #[.int .u64 (sw (rng 65 90) 0 : Nat), .int .u64 (sw (rng 65 90) 1 : Nat), .int .u64 (sw (rng 65 90) 2 : Nat), .int .u64 (sw (rng 65 90) 3 : Nat)]] w fun e w' => e = .returned (SV (orP (rng 97 122) (rng 65 90))) ∧ Below w.heap.size w w') := fun w => Lib.hid (ror_any (rng 97 122) (rng 65 90) w)
  have Y2 : ∀ w, Hid (Calls Tryd.prog 25 #[.agg #[.int .u64 (sw (orP (rng 97 122) (rng 65 90)) 0 : Nat), .int .u64 (sw (orP (rng 97 122) (rng 65 90)) 1 : Nat), .int .u64 (sw (orP (rng 97 122) (rng 65 90)) 2 : Nat), .int .u64 (sw (orP (rng 97 122) (rng 65 90)) 3 : Nat)], .agg #[.int .u64 (sw (rng 48 57) 0 : Nat), .int .u64 (sw (rng 48 57) 1 : Nat), .int .u64 (sw (rng 48 57) 2 : Nat), .int .u64 (sw (rng 48 57) 3 : Nat)]] w fun e w' => e = .returned (SV (orP (orP (rng 97 122) (rng 65 90)) (rng 48 57))) ∧ Below w.heap.size w w') := fun w => Lib.hid (ror_any (orP (rng 97 122) (rng 65 90)) (rng 48 57) w)
  have Z1 : ∀ w, Hid (Calls Tryd.prog 26 #[.int .u8 32, .int .u8 32] w fun e w' => e = .returned (SV (rng 32 32)) ∧ Below w.heap.size w w') := fun w => Lib.hid (rrange_any 32 32 (by omega) (by omega) w)
  have Z2 : ∀ w, Hid (Calls Tryd.prog 25 #[.agg #[.int .u64 (sw (rng 33 126) 0 : Nat), .int .u64 (sw (rng 33 126) 1 : Nat), .int .u64 (sw (rng 33 126) 2 : Nat), .int .u64 (sw (rng 33 126) 3 : Nat)], .agg #[.int .u64 (sw (rng 32 32) 0 : Nat), .int .u64 (sw (rng 32 32) 1 : Nat), .int .u64 (sw (rng 32 32) 2 : Nat), .int .u64 (sw (rng 32 32) 3 : Nat)]] w fun e w' => e = .returned (SV (orP (rng 33 126) (rng 32 32))) ∧ Below w.heap.size w w') := fun w => Lib.hid (ror_any (rng 33 126) (rng 32 32) w)
  go_enter Tryd.func38, Tryd.ntmps38
  go_wp2_with fail
  have HB0 : Hid (Below (w.heap.size + 1) (w.alloc (.cells #[.int .u64 0, .int .u64 0, .int .u64 0, .int .u64 0] 39)) (w.alloc (.cells #[.int .u64 0, .int .u64 0, .int .u64 0, .int .u64 0] 39))) := Lib.hid (Below.refl _ _)
  refine (X1 _).out.mono ?_
  rintro e w1 ⟨rfl, hb1⟩
  have HB1 := Lib.hid (HB0.out.trans (hb1.mono (bsz HB0.out)))
  clear hb1
  go_wp2_with fail
  refine (X2 _).out.mono ?_
  rintro e w2 ⟨rfl, hb2⟩
  have HB2 := Lib.hid (HB1.out.trans (hb2.mono (bsz HB1.out)))
  clear hb2
  go_wp2_with fail
  refine (X3 _).out.mono ?_
  rintro e w3 ⟨rfl, hb3⟩
  have HB3 := Lib.hid (HB2.out.trans (hb3.mono (bsz HB2.out)))
  clear hb3
  go_wp2_with fail
  refine (X4 _).out.mono ?_
  rintro e w4 ⟨rfl, hb4⟩
  have HB4 := Lib.hid (HB3.out.trans (hb4.mono (bsz HB3.out)))
  clear hb4
  unfold SV
  go_wp2_with fail
  have HKS := RB.start w w4 HB4.out
  have HBW := Lib.hid ((((HB4.out.alloc (bsz HB4.out) (.cells #[.int .u64 (sw (rng 97 122) 0 : Nat), .int .u64 (sw (rng 97 122) 1 : Nat), .int .u64 (sw (rng 97 122) 2 : Nat), .int .u64 (sw (rng 97 122) 3 : Nat)] 39)).alloc (by have := HB4.out.size; simp at this; simp; omega) (.cells #[.int .u64 (sw (rng 65 90) 0 : Nat), .int .u64 (sw (rng 65 90) 1 : Nat), .int .u64 (sw (rng 65 90) 2 : Nat), .int .u64 (sw (rng 65 90) 3 : Nat)] 39)).alloc (by have := HB4.out.size; simp at this; simp; omega) (.cells #[.int .u64 (sw (rng 48 57) 0 : Nat), .int .u64 (sw (rng 48 57) 1 : Nat), .int .u64 (sw (rng 48 57) 2 : Nat), .int .u64 (sw (rng 48 57) 3 : Nat)] 39)).alloc (by have := HB4.out.size; simp at this; simp; omega) (.cells #[.int .u64 (sw (rng 33 126) 0 : Nat), .int .u64 (sw (rng 33 126) 1 : Nat), .int .u64 (sw (rng 33 126) 2 : Nat), .int .u64 (sw (rng 33 126) 3 : Nat)] 39))
  obtain ⟨V, hV⟩ : ∃ V, V = (((w4.alloc (.cells #[.int .u64 (sw (rng 97 122) 0 : Nat), .int .u64 (sw (rng 97 122) 1 : Nat), .int .u64 (sw (rng 97 122) 2 : Nat), .int .u64 (sw (rng 97 122) 3 : Nat)] 39)).alloc (.cells #[.int .u64 (sw (rng 65 90) 0 : Nat), .int .u64 (sw (rng 65 90) 1 : Nat), .int .u64 (sw (rng 65 90) 2 : Nat), .int .u64 (sw (rng 65 90) 3 : Nat)] 39)).alloc (.cells #[.int .u64 (sw (rng 48 57) 0 : Nat), .int .u64 (sw (rng 48 57) 1 : Nat), .int .u64 (sw (rng 48 57) 2 : Nat), .int .u64 (sw (rng 48 57) 3 : Nat)] 39)).alloc (.cells #[.int .u64 (sw (rng 33 126) 0 : Nat), .int .u64 (sw (rng 33 126) 1 : Nat), .int .u64 (sw (rng 33 126) 2 : Nat), .int .u64 (sw (rng 33 126) 3 : Nat)] 39) := ⟨_, rfl⟩
  rw [← hV] at HKS HBW ⊢
  clear hV
  have HY0 : Hid (RB w w4.heap.size V.drew) := Lib.hid (HKS.nxt (Below.refl _ _).drew)
  have HBV : Hid (Below (w.heap.size + 1) (w.alloc (.cells #[.int .u64 0, .int .u64 0, .int .u64 0, .int .u64 0] 39)) V.drew) := Lib.hid HBW.out.drew
  clear HKS HBW
  refine wp_region_held (S := fun X => RB w w4.heap.size X) (by kernel_rfl) ?_
  try (change wpAnyH _ _ _ _ _ _ _ _ (World.drew _))
  generalize V.drew = X0 at *
  refine wpAnyH_take (i := 0) (v := .agg #[.int .u64 (sw (rng 97 122) 0 : Nat), .int .u64 (sw (rng 97 122) 1 : Nat), .int .u64 (sw (rng 97 122) 2 : Nat), .int .u64 (sw (rng 97 122) 3 : Nat)]) rfl (by kernel_rfl) (by kernel_rfl) (by kernel_rfl) (fun _ _ _ h => h) (Or.inl ⟨by kernel_rfl, ?_⟩) HY0.out ?_
  · intro X hS; obtain ⟨_, _, hS3, hS4, hS5, hS6⟩ := hS; obtain ⟨⟨z0, z1, z2, z3⟩, _⟩ := blk4 hS3; clear hS3 hS4 hS5 hS6; go_simp
  try simp only [Act.put, List.setIfInBounds_toArray]
  refine wpAnyH_take (i := 1) (v := .agg #[.int .u64 (sw (rng 65 90) 0 : Nat), .int .u64 (sw (rng 65 90) 1 : Nat), .int .u64 (sw (rng 65 90) 2 : Nat), .int .u64 (sw (rng 65 90) 3 : Nat)]) rfl (by kernel_rfl) (by kernel_rfl) (by kernel_rfl) (fun _ _ _ h => h) (Or.inl ⟨by kernel_rfl, ?_⟩) HY0.out ?_
  · intro X hS; obtain ⟨_, _, hS3, hS4, hS5, hS6⟩ := hS; obtain ⟨⟨z0, z1, z2, z3⟩, _⟩ := blk4 hS4; clear hS3 hS4 hS5 hS6; go_simp
  try simp only [Act.put]
  refine wpAnyH_take (i := 3) (v := .agg #[.int .u64 (sw (rng 48 57) 0 : Nat), .int .u64 (sw (rng 48 57) 1 : Nat), .int .u64 (sw (rng 48 57) 2 : Nat), .int .u64 (sw (rng 48 57) 3 : Nat)]) rfl (by kernel_rfl) (by kernel_rfl) (by kernel_rfl) (fun _ _ _ h => h) (Or.inl ⟨by kernel_rfl, ?_⟩) HY0.out ?_
  · intro X hS; obtain ⟨_, _, hS3, hS4, hS5, hS6⟩ := hS; obtain ⟨⟨z0, z1, z2, z3⟩, _⟩ := blk4 hS5; clear hS3 hS4 hS5 hS6; go_simp
  try simp only [Act.put]
  have HYX0 := HY0
  have HBX0 := HBV
  refine wpAnyH_all (rs := [2, 5]) (by kernel_rfl) (by simp) ?_
  intro ii hii
  simp only [List.mem_cons, List.not_mem_nil, or_false] at hii
  rcases hii with rfl | rfl
  · skip
    refine wpOp_step (by rfl) ?_
    intro K' hK'
    go_simp
    go_at_call 25
    refine (Y1 _).out.mono ?_
    rintro e A1 ⟨rfl, hbc⟩
    have HYA1 := Lib.hid (HYX0.out.nxt hbc)
    have HBA1 := Lib.hid (HBX0.out.trans (hbc.mono (bsz HBX0.out)))
    clear hbc
    unfold SV
    refine hK' _ _ ⟨HYA1.out, ?_⟩
    clear hK'
    refine wpAnyH_all (rs := [4, 5]) (by kernel_rfl) (by simp) ?_
    intro ii hii
    simp only [List.mem_cons, List.not_mem_nil, or_false] at hii
    rcases hii with rfl | rfl
    · skip
      refine wpOp_step (by rfl) ?_
      intro K' hK'
      go_simp
      go_at_call 25
      refine (Y2 _).out.mono ?_
      rintro e A2 ⟨rfl, hbc⟩
      have HYA2 := Lib.hid (HYA1.out.nxt hbc)
      have HBA2 := Lib.hid (HBA1.out.trans (hbc.mono (bsz HBA1.out)))
      clear hbc
      unfold SV
      refine hK' _ _ ⟨HYA2.out, ?_⟩
      clear hK'
      refine wpAnyH_all (rs := [5]) (by kernel_rfl) (by simp) ?_
      intro ii hii
      rw [List.mem_singleton] at hii
      subst hii
      refine wpOp_step (by rfl) ?_
      intro K' hK'
      go_simp
      obtain ⟨A3, hV⟩ : ∃ V, V = A2.alloc (.cells #[.int .u64 0, .int .u64 0, .int .u64 0, .int .u64 0] 39) := ⟨_, rfl⟩
      rw [← hV]
      have HYA3 : Hid (RB w w4.heap.size A3) := Lib.hid (by rw [hV]; exact HYA2.out.nxt ((Below.refl _ _).alloc (Nat.le_refl _) _))
      have HBA3 : Hid (Below (w.heap.size + 1) (w.alloc (.cells #[.int .u64 0, .int .u64 0, .int .u64 0, .int .u64 0] 39)) A3) := Lib.hid (by rw [hV]; exact HBA2.out.trans (((Below.refl _ _).alloc (Nat.le_refl _) _).mono (bsz HBA2.out)))
      have HGA3 : Hid (A3.heap[A2.heap.size]? = some (.cells #[.int .u64 0, .int .u64 0, .int .u64 0, .int .u64 0] 39)) := Lib.hid (by rw [hV]; exact alloc_last4 _ _)
      have hg8 : w4.heap.size + 1 + 1 + 1 < A2.heap.size := lt_blk HYA2.out.2.2.2.2.2
      have hg9 : w.heap.size + 1 ≤ w4.heap.size := HYA2.out.2.1
      clear hV
      refine hK' _ _ ⟨HYA3.out, ?_⟩
      clear hK'
      obtain ⟨⟨t0, t1, t2, t3⟩, ⟨u0, u1, u2, u3⟩, uz⟩ := blk4f HGA3.out
      refine wpAnyH_all (rs := [6]) (by kernel_rfl) (by simp) ?_
      intro ii hii
      rw [List.mem_singleton] at hii
      subst hii
      refine wpOp_step (by rfl) ?_
      intro K' hK'
      go_simp
      obtain ⟨A3s, hV⟩ : ∃ V, V = (((A3.setCell ⟨A2.heap.size, 0, none⟩ (.int .u64 (sw (orP (orP (rng 97 122) (rng 65 90)) (rng 48 57)) 0 : Nat))).setCell ⟨A2.heap.size, 1, none⟩ (.int .u64 (sw (orP (orP (rng 97 122) (rng 65 90)) (rng 48 57)) 1 : Nat))).setCell ⟨A2.heap.size, 2, none⟩ (.int .u64 (sw (orP (orP (rng 97 122) (rng 65 90)) (rng 48 57)) 2 : Nat))).setCell ⟨A2.heap.size, 3, none⟩ (.int .u64 (sw (orP (orP (rng 97 122) (rng 65 90)) (rng 48 57)) 3 : Nat)) := ⟨_, rfl⟩
      rw [← hV]
      have HYA3s : Hid (RB w w4.heap.size A3s) := Lib.hid (by rw [hV]; exact (((HYA3.out.set _ 0 _ (Or.inr hg8)).set _ 1 _ (Or.inr hg8)).set _ 2 _ (Or.inr hg8)).set _ 3 _ (Or.inr hg8))
      have HBA3s : Hid (Below (w.heap.size + 1) (w.alloc (.cells #[.int .u64 0, .int .u64 0, .int .u64 0, .int .u64 0] 39)) A3s) := Lib.hid (by rw [hV]; exact (((HBA3.out.setCell (by simp; omega) _).setCell (by simp; omega) _).setCell (by simp; omega) _).setCell (by simp; omega) _)
      have HRA3s : Hid (Row4 A3s A2.heap.size 0 (orP (orP (rng 97 122) (rng 65 90)) (rng 48 57))) := Lib.hid (by rw [hV]; exact row4_put (p := noP) (orP (orP (rng 97 122) (rng 65 90)) (rng 48 57)) (row_no t0 t1 t2 t3))
      have hgz : A2.heap.size < A3s.heap.size := by rw [hV]; simpa using uz
      clear hV t0 t1 t2 t3 u0 u1 u2 u3 uz
      refine hK' _ _ ⟨HYA3s.out, ?_⟩
      clear hK'
      refine wpAnyH_done (by kernel_rfl) ?_ _
      go_wp2_with fail
      have HYd : Hid (RB w w4.heap.size A3s.drew) := Lib.hid (HYA3s.out.nxt (Below.refl _ _).drew)
      have HBd : Hid (Below (w.heap.size + 1) (w.alloc (.cells #[.int .u64 0, .int .u64 0, .int .u64 0, .int .u64 0] 39)) A3s.drew) := Lib.hid HBA3s.out.drew
      have HRd : Hid (Row4 A3s.drew (A2.heap.size) 0 (orP (orP (rng 97 122) (rng 65 90)) (rng 48 57))) := Lib.hid HRA3s.out
      have hgd : (A2.heap.size) < A3s.drew.heap.size := hgz
      have HSd : Hid (RB w w4.heap.size A3s.drew ∧ Row4 A3s.drew (A2.heap.size) 0 (orP (orP (rng 97 122) (rng 65 90)) (rng 48 57))) := Lib.hid ⟨HYd.out, HRd.out⟩
      refine wp_region_held (S := fun X => RB w w4.heap.size X ∧ Row4 X (A2.heap.size) 0 (orP (orP (rng 97 122) (rng 65 90)) (rng 48 57))) (by kernel_rfl) ?_
      try (change wpAnyH _ _ _ _ _ _ _ _ (World.drew _))
      generalize A3s.drew = G0 at *
      refine wpAnyH_take (i := 0) (v := .agg #[.int .u64 (sw (rng 33 126) 0 : Nat), .int .u64 (sw (rng 33 126) 1 : Nat), .int .u64 (sw (rng 33 126) 2 : Nat), .int .u64 (sw (rng 33 126) 3 : Nat)]) rfl (by kernel_rfl) (by kernel_rfl) (by kernel_rfl) (fun _ _ _ h => h) (Or.inl ⟨by kernel_rfl, ?_⟩) HSd.out ?_
      · intro X hS; obtain ⟨⟨_, _, hS3, hS4, hS5, hS6⟩, _⟩ := hS; obtain ⟨⟨z0, z1, z2, z3⟩, _⟩ := blk4 hS6; clear hS3 hS4 hS5 hS6; go_simp
      try simp only [Act.put, List.setIfInBounds_toArray]
      refine wpAnyH_all (rs := [1]) (by kernel_rfl) (by simp) ?_
      intro ii hii
      rw [List.mem_singleton] at hii
      subst hii
      refine wpOp_step (by rfl) ?_
      intro K' hK'
      go_simp
      go_at_call 26
      refine (Z1 _).out.mono ?_
      rintro e G1 ⟨rfl, hbc⟩
      have HYG1 := Lib.hid (HYd.out.nxt hbc)
      have HBG1 := Lib.hid (HBd.out.trans (hbc.mono (bsz HBd.out)))
      have HRG1 := Lib.hid (row4_bel HRd.out hbc hgd)
      have hgdG1 : (A2.heap.size) < G1.heap.size := Nat.lt_of_lt_of_le hgd hbc.size
      clear hbc
      unfold SV
      refine hK' _ _ ⟨⟨HYG1.out, HRG1.out⟩, ?_⟩
      clear hK'
      refine wpAnyH_all (rs := [2]) (by kernel_rfl) (by simp) ?_
      intro ii hii
      rw [List.mem_singleton] at hii
      subst hii
      refine wpOp_step (by rfl) ?_
      intro K' hK'
      go_simp
      go_at_call 25
      refine (Z2 _).out.mono ?_
      rintro e G2 ⟨rfl, hbc⟩
      have HYG2 := Lib.hid (HYG1.out.nxt hbc)
      have HBG2 := Lib.hid (HBG1.out.trans (hbc.mono (bsz HBG1.out)))
      have HRG2 := Lib.hid (row4_bel HRG1.out hbc hgdG1)
      have hgdG2 : (A2.heap.size) < G2.heap.size := Nat.lt_of_lt_of_le hgdG1 hbc.size
      clear hbc
      unfold SV
      refine hK' _ _ ⟨⟨HYG2.out, HRG2.out⟩, ?_⟩
      clear hK'
      obtain ⟨r0, r1, r2, r3, s0, s1, s2, s3, rz⟩ := res_facts HBG2.out (Nat.lt_succ_self _)
      refine wpAnyH_all (rs := [3]) (by kernel_rfl) (by simp) ?_
      intro ii hii
      rw [List.mem_singleton] at hii
      subst hii
      refine wpOp_step (by rfl) ?_
      intro K' hK'
      go_simp
      refine hK' _ _ ⟨⟨(((HYG2.out.set _ 0 _ (Or.inl rfl)).set _ 1 _ (Or.inl rfl)).set _ 2 _ (Or.inl rfl)).set _ 3 _ (Or.inl rfl), row4_far HRG2.out (by omega)⟩, ?_⟩
      clear hK'
      refine wpAnyH_all (rs := [4]) (by kernel_rfl) (by simp) ?_
      intro ii hii
      rw [List.mem_singleton] at hii
      subst hii
      refine wpOp_step (by rfl) ?_
      intro K' hK'
      go_simp
      refine hK' _ _ ⟨⟨(((HYG2.out.set _ 0 _ (Or.inl rfl)).set _ 1 _ (Or.inl rfl)).set _ 2 _ (Or.inl rfl)).set _ 3 _ (Or.inl rfl), row4_far HRG2.out (by omega)⟩, ?_⟩
      clear hK'
      refine wpAnyH_done (by kernel_rfl) ?_ _
      go_wp2
      exact bodyPost_ret (by simp [results, Tryd.results38, go_sem, r0, r1, r2, r3]; rfl) rfl ⟨rfl, res_below HBG2.out _ _ _ _⟩
    · skip
      refine wpOp_step (by rfl) ?_
      intro K' hK'
      go_simp
      obtain ⟨C2, hV⟩ : ∃ V, V = A1.alloc (.cells #[.int .u64 0, .int .u64 0, .int .u64 0, .int .u64 0] 39) := ⟨_, rfl⟩
      rw [← hV]
      have HYC2 : Hid (RB w w4.heap.size C2) := Lib.hid (by rw [hV]; exact HYA1.out.nxt ((Below.refl _ _).alloc (Nat.le_refl _) _))
      have HBC2 : Hid (Below (w.heap.size + 1) (w.alloc (.cells #[.int .u64 0, .int .u64 0, .int .u64 0, .int .u64 0] 39)) C2) := Lib.hid (by rw [hV]; exact HBA1.out.trans (((Below.refl _ _).alloc (Nat.le_refl _) _).mono (bsz HBA1.out)))
      have HGC2 : Hid (C2.heap[A1.heap.size]? = some (.cells #[.int .u64 0, .int .u64 0, .int .u64 0, .int .u64 0] 39)) := Lib.hid (by rw [hV]; exact alloc_last4 _ _)
      have hg8 : w4.heap.size + 1 + 1 + 1 < A1.heap.size := lt_blk HYA1.out.2.2.2.2.2
      have hg9 : w.heap.size + 1 ≤ w4.heap.size := HYA1.out.2.1
      clear hV
      refine hK' _ _ ⟨HYC2.out, ?_⟩
      clear hK'
      refine wpAnyH_all (rs := [4]) (by kernel_rfl) (by simp) ?_
      intro ii hii
      rw [List.mem_singleton] at hii
      subst hii
      refine wpOp_step (by rfl) ?_
      intro K' hK'
      go_simp
      go_at_call 25
      refine (Y2 _).out.mono ?_
      rintro e C3 ⟨rfl, hbc⟩
      have HYC3 := Lib.hid (HYC2.out.nxt hbc)
      have HBC3 := Lib.hid (HBC2.out.trans (hbc.mono (bsz HBC2.out)))
      have HGC3 := Lib.hid ((hbc.block _ (lt_blk HGC2.out)).trans HGC2.out)
      clear hbc
      unfold SV
      refine hK' _ _ ⟨HYC3.out, ?_⟩
      clear hK'
      obtain ⟨⟨t0, t1, t2, t3⟩, ⟨u0, u1, u2, u3⟩, uz⟩ := blk4f HGC3.out
      refine wpAnyH_all (rs := [6]) (by kernel_rfl) (by simp) ?_
      intro ii hii
      rw [List.mem_singleton] at hii
      subst hii
      refine wpOp_step (by rfl) ?_
      intro K' hK'
      go_simp
      obtain ⟨C3s, hV⟩ : ∃ V, V = (((C3.setCell ⟨A1.heap.size, 0, none⟩ (.int .u64 (sw (orP (orP (rng 97 122) (rng 65 90)) (rng 48 57)) 0 : Nat))).setCell ⟨A1.heap.size, 1, none⟩ (.int .u64 (sw (orP (orP (rng 97 122) (rng 65 90)) (rng 48 57)) 1 : Nat))).setCell ⟨A1.heap.size, 2, none⟩ (.int .u64 (sw (orP (orP (rng 97 122) (rng 65 90)) (rng 48 57)) 2 : Nat))).setCell ⟨A1.heap.size, 3, none⟩ (.int .u64 (sw (orP (orP (rng 97 122) (rng 65 90)) (rng 48 57)) 3 : Nat)) := ⟨_, rfl⟩
      rw [← hV]
      have HYC3s : Hid (RB w w4.heap.size C3s) := Lib.hid (by rw [hV]; exact (((HYC3.out.set _ 0 _ (Or.inr hg8)).set _ 1 _ (Or.inr hg8)).set _ 2 _ (Or.inr hg8)).set _ 3 _ (Or.inr hg8))
      have HBC3s : Hid (Below (w.heap.size + 1) (w.alloc (.cells #[.int .u64 0, .int .u64 0, .int .u64 0, .int .u64 0] 39)) C3s) := Lib.hid (by rw [hV]; exact (((HBC3.out.setCell (by simp; omega) _).setCell (by simp; omega) _).setCell (by simp; omega) _).setCell (by simp; omega) _)
      have HRC3s : Hid (Row4 C3s A1.heap.size 0 (orP (orP (rng 97 122) (rng 65 90)) (rng 48 57))) := Lib.hid (by rw [hV]; exact row4_put (p := noP) (orP (orP (rng 97 122) (rng 65 90)) (rng 48 57)) (row_no t0 t1 t2 t3))
      have hgz : A1.heap.size < C3s.heap.size := by rw [hV]; simpa using uz
      clear hV t0 t1 t2 t3 u0 u1 u2 u3 uz
      refine hK' _ _ ⟨HYC3s.out, ?_⟩
      clear hK'
      refine wpAnyH_done (by kernel_rfl) ?_ _
      go_wp2_with fail
      have HYd : Hid (RB w w4.heap.size C3s.drew) := Lib.hid (HYC3s.out.nxt (Below.refl _ _).drew)
      have HBd : Hid (Below (w.heap.size + 1) (w.alloc (.cells #[.int .u64 0, .int .u64 0, .int .u64 0, .int .u64 0] 39)) C3s.drew) := Lib.hid HBC3s.out.drew
      have HRd : Hid (Row4 C3s.drew (A1.heap.size) 0 (orP (orP (rng 97 122) (rng 65 90)) (rng 48 57))) := Lib.hid HRC3s.out
      have hgd : (A1.heap.size) < C3s.drew.heap.size := hgz
      have HSd : Hid (RB w w4.heap.size C3s.drew ∧ Row4 C3s.drew (A1.heap.size) 0 (orP (orP (rng 97 122) (rng 65 90)) (rng 48 57))) := Lib.hid ⟨HYd.out, HRd.out⟩
      refine wp_region_held (S := fun X => RB w w4.heap.size X ∧ Row4 X (A1.heap.size) 0 (orP (orP (rng 97 122) (rng 65 90)) (rng 48 57))) (by kernel_rfl) ?_
      try (change wpAnyH _ _ _ _ _ _ _ _ (World.drew _))
      generalize C3s.drew = G0 at *
      refine wpAnyH_take (i := 0) (v := .agg #[.int .u64 (sw (rng 33 126) 0 : Nat), .int .u64 (sw (rng 33 126) 1 : Nat), .int .u64 (sw (rng 33 126) 2 : Nat), .int .u64 (sw (rng 33 126) 3 : Nat)]) rfl (by kernel_rfl) (by kernel_rfl) (by kernel_rfl) (fun _ _ _ h => h) (Or.inl ⟨by kernel_rfl, ?_⟩) HSd.out ?_
      · intro X hS; obtain ⟨⟨_, _, hS3, hS4, hS5, hS6⟩, _⟩ := hS; obtain ⟨⟨z0, z1, z2, z3⟩, _⟩ := blk4 hS6; clear hS3 hS4 hS5 hS6; go_simp
      try simp only [Act.put, List.setIfInBounds_toArray]
      refine wpAnyH_all (rs := [1]) (by kernel_rfl) (by simp) ?_
      intro ii hii
      rw [List.mem_singleton] at hii
      subst hii
      refine wpOp_step (by rfl) ?_
      intro K' hK'
      go_simp
      go_at_call 26
      refine (Z1 _).out.mono ?_
      rintro e G1 ⟨rfl, hbc⟩
      have HYG1 := Lib.hid (HYd.out.nxt hbc)
      have HBG1 := Lib.hid (HBd.out.trans (hbc.mono (bsz HBd.out)))
      have HRG1 := Lib.hid (row4_bel HRd.out hbc hgd)
      have hgdG1 : (A1.heap.size) < G1.heap.size := Nat.lt_of_lt_of_le hgd hbc.size
      clear hbc
      unfold SV
      refine hK' _ _ ⟨⟨HYG1.out, HRG1.out⟩, ?_⟩
      clear hK'
      refine wpAnyH_all (rs := [2]) (by kernel_rfl) (by simp) ?_
      intro ii hii
      rw [List.mem_singleton] at hii
      subst hii
      refine wpOp_step (by rfl) ?_
      intro K' hK'
      go_simp
      go_at_call 25
      refine (Z2 _).out.mono ?_
      rintro e G2 ⟨rfl, hbc⟩
      have HYG2 := Lib.hid (HYG1.out.nxt hbc)
      have HBG2 := Lib.hid (HBG1.out.trans (hbc.mono (bsz HBG1.out)))
      have HRG2 := Lib.hid (row4_bel HRG1.out hbc hgdG1)
      have hgdG2 : (A1.heap.size) < G2.heap.size := Nat.lt_of_lt_of_le hgdG1 hbc.size
      clear hbc
      unfold SV
      refine hK' _ _ ⟨⟨HYG2.out, HRG2.out⟩, ?_⟩
      clear hK'
      obtain ⟨r0, r1, r2, r3, s0, s1, s2, s3, rz⟩ := res_facts HBG2.out (Nat.lt_succ_self _)
      refine wpAnyH_all (rs := [3]) (by kernel_rfl) (by simp) ?_
      intro ii hii
      rw [List.mem_singleton] at hii
      subst hii
      refine wpOp_step (by rfl) ?_
      intro K' hK'
      go_simp
      refine hK' _ _ ⟨⟨(((HYG2.out.set _ 0 _ (Or.inl rfl)).set _ 1 _ (Or.inl rfl)).set _ 2 _ (Or.inl rfl)).set _ 3 _ (Or.inl rfl), row4_far HRG2.out (by omega)⟩, ?_⟩
      clear hK'
      refine wpAnyH_all (rs := [4]) (by kernel_rfl) (by simp) ?_
      intro ii hii
      rw [List.mem_singleton] at hii
      subst hii
      refine wpOp_step (by rfl) ?_
      intro K' hK'
      go_simp
      refine hK' _ _ ⟨⟨(((HYG2.out.set _ 0 _ (Or.inl rfl)).set _ 1 _ (Or.inl rfl)).set _ 2 _ (Or.inl rfl)).set _ 3 _ (Or.inl rfl), row4_far HRG2.out (by omega)⟩, ?_⟩
      clear hK'
      refine wpAnyH_done (by kernel_rfl) ?_ _
      go_wp2
      exact bodyPost_ret (by simp [results, Tryd.results38, go_sem, r0, r1, r2, r3]; rfl) rfl ⟨rfl, res_below HBG2.out _ _ _ _⟩
  · skip
    refine wpOp_step (by rfl) ?_
    intro K' hK'
    go_simp
    obtain ⟨D1, hV⟩ : ∃ V, V = X0.alloc (.cells #[.int .u64 0, .int .u64 0, .int .u64 0, .int .u64 0] 39) := ⟨_, rfl⟩
    rw [← hV]
    have HYD1 : Hid (RB w w4.heap.size D1) := Lib.hid (by rw [hV]; exact HYX0.out.nxt ((Below.refl _ _).alloc (Nat.le_refl _) _))
    have HBD1 : Hid (Below (w.heap.size + 1) (w.alloc (.cells #[.int .u64 0, .int .u64 0, .int .u64 0, .int .u64 0] 39)) D1) := Lib.hid (by rw [hV]; exact HBX0.out.trans (((Below.refl _ _).alloc (Nat.le_refl _) _).mono (bsz HBX0.out)))
    have HGD1 : Hid (D1.heap[X0.heap.size]? = some (.cells #[.int .u64 0, .int .u64 0, .int .u64 0, .int .u64 0] 39)) := Lib.hid (by rw [hV]; exact alloc_last4 _ _)
    have hg8 : w4.heap.size + 1 + 1 + 1 < X0.heap.size := lt_blk HYX0.out.2.2.2.2.2
    have hg9 : w.heap.size + 1 ≤ w4.heap.size := HYX0.out.2.1
    clear hV
    refine hK' _ _ ⟨HYD1.out, ?_⟩
    clear hK'
    refine wpAnyH_all (rs := [2]) (by kernel_rfl) (by simp) ?_
    intro ii hii
    rw [List.mem_singleton] at hii
    subst hii
    refine wpOp_step (by rfl) ?_
    intro K' hK'
    go_simp
    go_at_call 25
    refine (Y1 _).out.mono ?_
    rintro e D2 ⟨rfl, hbc⟩
    have HYD2 := Lib.hid (HYD1.out.nxt hbc)
    have HBD2 := Lib.hid (HBD1.out.trans (hbc.mono (bsz HBD1.out)))
    have HGD2 := Lib.hid ((hbc.block _ (lt_blk HGD1.out)).trans HGD1.out)
    clear hbc
    unfold SV
    refine hK' _ _ ⟨HYD2.out, ?_⟩
    clear hK'
    refine wpAnyH_all (rs := [4]) (by kernel_rfl) (by simp) ?_
    intro ii hii
    rw [List.mem_singleton] at hii
    subst hii
    refine wpOp_step (by rfl) ?_
    intro K' hK'
    go_simp
    go_at_call 25
    refine (Y2 _).out.mono ?_
    rintro e D3 ⟨rfl, hbc⟩
    have HYD3 := Lib.hid (HYD2.out.nxt hbc)
    have HBD3 := Lib.hid (HBD2.out.trans (hbc.mono (bsz HBD2.out)))
    have HGD3 := Lib.hid ((hbc.block _ (lt_blk HGD2.out)).trans HGD2.out)
    clear hbc
    unfold SV
    refine hK' _ _ ⟨HYD3.out, ?_⟩
    clear hK'
    obtain ⟨⟨t0, t1, t2, t3⟩, ⟨u0, u1, u2, u3⟩, uz⟩ := blk4f HGD3.out
    refine wpAnyH_all (rs := [6]) (by kernel_rfl) (by simp) ?_
    intro ii hii
    rw [List.mem_singleton] at hii
    subst hii
    refine wpOp_step (by rfl) ?_
    intro K' hK'
    go_simp
    obtain ⟨D3s, hV⟩ : ∃ V, V = (((D3.setCell ⟨X0.heap.size, 0, none⟩ (.int .u64 (sw (orP (orP (rng 97 122) (rng 65 90)) (rng 48 57)) 0 : Nat))).setCell ⟨X0.heap.size, 1, none⟩ (.int .u64 (sw (orP (orP (rng 97 122) (rng 65 90)) (rng 48 57)) 1 : Nat))).setCell ⟨X0.heap.size, 2, none⟩ (.int .u64 (sw (orP (orP (rng 97 122) (rng 65 90)) (rng 48 57)) 2 : Nat))).setCell ⟨X0.heap.size, 3, none⟩ (.int .u64 (sw (orP (orP (rng 97 122) (rng 65 90)) (rng 48 57)) 3 : Nat)) := ⟨_, rfl⟩
    rw [← hV]
    have HYD3s : Hid (RB w w4.heap.size D3s) := Lib.hid (by rw [hV]; exact (((HYD3.out.set _ 0 _ (Or.inr hg8)).set _ 1 _ (Or.inr hg8)).set _ 2 _ (Or.inr hg8)).set _ 3 _ (Or.inr hg8))
    have HBD3s : Hid (Below (w.heap.size + 1) (w.alloc (.cells #[.int .u64 0, .int .u64 0, .int .u64 0, .int .u64 0] 39)) D3s) := Lib.hid (by rw [hV]; exact (((HBD3.out.setCell (by simp; omega) _).setCell (by simp; omega) _).setCell (by simp; omega) _).setCell (by simp; omega) _)
    have HRD3s : Hid (Row4 D3s X0.heap.size 0 (orP (orP (rng 97 122) (rng 65 90)) (rng 48 57))) := Lib.hid (by rw [hV]; exact row4_put (p := noP) (orP (orP (rng 97 122) (rng 65 90)) (rng 48 57)) (row_no t0 t1 t2 t3))
    have hgz : X0.heap.size < D3s.heap.size := by rw [hV]; simpa using uz
    clear hV t0 t1 t2 t3 u0 u1 u2 u3 uz
    refine hK' _ _ ⟨HYD3s.out, ?_⟩
    clear hK'
    refine wpAnyH_done (by kernel_rfl) ?_ _
    go_wp2_with fail
    have HYd : Hid (RB w w4.heap.size D3s.drew) := Lib.hid (HYD3s.out.nxt (Below.refl _ _).drew)
    have HBd : Hid (Below (w.heap.size + 1) (w.alloc (.cells #[.int .u64 0, .int .u64 0, .int .u64 0, .int .u64 0] 39)) D3s.drew) := Lib.hid HBD3s.out.drew
    have HRd : Hid (Row4 D3s.drew (X0.heap.size) 0 (orP (orP (rng 97 122) (rng 65 90)) (rng 48 57))) := Lib.hid HRD3s.out
    have hgd : (X0.heap.size) < D3s.drew.heap.size := hgz
    have HSd : Hid (RB w w4.heap.size D3s.drew ∧ Row4 D3s.drew (X0.heap.size) 0 (orP (orP (rng 97 122) (rng 65 90)) (rng 48 57))) := Lib.hid ⟨HYd.out, HRd.out⟩
    refine wp_region_held (S := fun X => RB w w4.heap.size X ∧ Row4 X (X0.heap.size) 0 (orP (orP (rng 97 122) (rng 65 90)) (rng 48 57))) (by kernel_rfl) ?_
    try (change wpAnyH _ _ _ _ _ _ _ _ (World.drew _))
    generalize D3s.drew = G0 at *
    refine wpAnyH_take (i := 0) (v := .agg #[.int .u64 (sw (rng 33 126) 0 : Nat), .int .u64 (sw (rng 33 126) 1 : Nat), .int .u64 (sw (rng 33 126) 2 : Nat), .int .u64 (sw (rng 33 126) 3 : Nat)]) rfl (by kernel_rfl) (by kernel_rfl) (by kernel_rfl) (fun _ _ _ h => h) (Or.inl ⟨by kernel_rfl, ?_⟩) HSd.out ?_
    · intro X hS; obtain ⟨⟨_, _, hS3, hS4, hS5, hS6⟩, _⟩ := hS; obtain ⟨⟨z0, z1, z2, z3⟩, _⟩ := blk4 hS6; clear hS3 hS4 hS5 hS6; go_simp
    try simp only [Act.put, List.setIfInBounds_toArray]
    refine wpAnyH_all (rs := [1]) (by kernel_rfl) (by simp) ?_
    intro ii hii
    rw [List.mem_singleton] at hii
    subst hii
    refine wpOp_step (by rfl) ?_
    intro K' hK'
    go_simp
    go_at_call 26
    refine (Z1 _).out.mono ?_
    rintro e G1 ⟨rfl, hbc⟩
    have HYG1 := Lib.hid (HYd.out.nxt hbc)
    have HBG1 := Lib.hid (HBd.out.trans (hbc.mono (bsz HBd.out)))
    have HRG1 := Lib.hid (row4_bel HRd.out hbc hgd)
    have hgdG1 : (X0.heap.size) < G1.heap.size := Nat.lt_of_lt_of_le hgd hbc.size
    clear hbc
    unfold SV
    refine hK' _ _ ⟨⟨HYG1.out, HRG1.out⟩, ?_⟩
    clear hK'
    refine wpAnyH_all (rs := [2]) (by kernel_rfl) (by simp) ?_
    intro ii hii
    rw [List.mem_singleton] at hii
    subst hii
    refine wpOp_step (by rfl) ?_
    intro K' hK'
    go_simp
    go_at_call 25
    refine (Z2 _).out.mono ?_
    rintro e G2 ⟨rfl, hbc⟩
    have HYG2 := Lib.hid (HYG1.out.nxt hbc)
    have HBG2 := Lib.hid (HBG1.out.trans (hbc.mono (bsz HBG1.out)))
    have HRG2 := Lib.hid (row4_bel HRG1.out hbc hgdG1)
    have hgdG2 : (X0.heap.size) < G2.heap.size := Nat.lt_of_lt_of_le hgdG1 hbc.size
    clear hbc
    unfold SV
    refine hK' _ _ ⟨⟨HYG2.out, HRG2.out⟩, ?_⟩
    clear hK'
    obtain ⟨r0, r1, r2, r3, s0, s1, s2, s3, rz⟩ := res_facts HBG2.out (Nat.lt_succ_self _)
    refine wpAnyH_all (rs := [3]) (by kernel_rfl) (by simp) ?_
    intro ii hii
    rw [List.mem_singleton] at hii
    subst hii
    refine wpOp_step (by rfl) ?_
    intro K' hK'
    go_simp
    refine hK' _ _ ⟨⟨(((HYG2.out.set _ 0 _ (Or.inl rfl)).set _ 1 _ (Or.inl rfl)).set _ 2 _ (Or.inl rfl)).set _ 3 _ (Or.inl rfl), row4_far HRG2.out (by omega)⟩, ?_⟩
    clear hK'
    refine wpAnyH_all (rs := [4]) (by kernel_rfl) (by simp) ?_
    intro ii hii
    rw [List.mem_singleton] at hii
    subst hii
    refine wpOp_step (by rfl) ?_
    intro K' hK'
    go_simp
    refine hK' _ _ ⟨⟨(((HYG2.out.set _ 0 _ (Or.inl rfl)).set _ 1 _ (Or.inl rfl)).set _ 2 _ (Or.inl rfl)).set _ 3 _ (Or.inl rfl), row4_far HRG2.out (by omega)⟩, ?_⟩
    clear hK'
    refine wpAnyH_done (by kernel_rfl) ?_ _
    go_wp2
    exact bodyPost_ret (by simp [results, Tryd.results38, go_sem, r0, r1, r2, r3]; rfl) rfl ⟨rfl, res_below HBG2.out _ _ _ _⟩
end Go.Proofs.YtoodpajbefffhaaDoor
/- The contract of the reference's Class at punct (gen_refclass.py). -/
namespace Go.Proofs.YtoodpajbefffhaaDoor
open Go.RowKit

set_option maxRecDepth 100000 in
set_option maxHeartbeats 16000000 in
theorem rclass_punct (w : World) :
    Calls Tryd.prog 38 #[.string ⟨#[112, 117, 110, 99, 116]⟩] w fun e w' => e = .returned (.tuple #[SV (fun c => !orP (fun c => !rng 33 126 c) (orP (orP (rng 97 122) (rng 65 90)) (rng 48 57)) c), .bool true]) ∧ Below w.heap.size w w' := by
  have X1 : ∀ w, Hid (Calls Tryd.prog 26 #[.int .u8 97, .int .u8 122] w fun e w' => e = .returned (SV (rng 97 122)) ∧ Below w.heap.size w w') := fun w => Lib.hid (rrange_any 97 122 (by omega) (by omega) w)
  have X2 : ∀ w, Hid (Calls Tryd.prog 26 #[.int .u8 65, .int .u8 90] w fun e w' => e = .returned (SV (rng 65 90)) ∧ Below w.heap.size w w') := fun w => Lib.hid (rrange_any 65 90 (by omega) (by omega) w)
  have X3 : ∀ w, Hid (Calls Tryd.prog 26 #[.int .u8 48, .int .u8 57] w fun e w' => e = .returned (SV (rng 48 57)) ∧ Below w.heap.size w w') := fun w => Lib.hid (rrange_any 48 57 (by omega) (by omega) w)
  have X4 : ∀ w, Hid (Calls Tryd.prog 26 #[.int .u8 33, .int .u8 126] w fun e w' => e = .returned (SV (rng 33 126)) ∧ Below w.heap.size w w') := fun w => Lib.hid (rrange_any 33 126 (by omega) (by omega) w)
  have Y1 : ∀ w, Hid (Calls Tryd.prog 25 #[.agg #[.int .u64 (sw (rng 97 122) 0 : Nat), .int .u64 (sw (rng 97 122) 1 : Nat), .int .u64 (sw (rng 97 122) 2 : Nat), .int .u64 (sw (rng 97 122) 3 : Nat)], .agg #[.int .u64 (sw (rng 65 90) 0 : Nat), .int .u64 (sw (rng 65 90) 1 : Nat), .int .u64 (sw (rng 65 90) 2 : Nat), .int .u64 (sw (rng 65 90) 3 : Nat)]] w fun e w' => e = .returned (SV (orP (rng 97 122) (rng 65 90))) ∧ Below w.heap.size w w') := fun w => Lib.hid (ror_any (rng 97 122) (rng 65 90) w)
  have Y2 : ∀ w, Hid (Calls Tryd.prog 25 #[.agg #[.int .u64 (sw (orP (rng 97 122) (rng 65 90)) 0 : Nat), .int .u64 (sw (orP (rng 97 122) (rng 65 90)) 1 : Nat), .int .u64 (sw (orP (rng 97 122) (rng 65 90)) 2 : Nat), .int .u64 (sw (orP (rng 97 122) (rng 65 90)) 3 : Nat)], .agg #[.int .u64 (sw (rng 48 57) 0 : Nat), .int .u64 (sw (rng 48 57) 1 : Nat), .int .u64 (sw (rng 48 57) 2 : Nat), .int .u64 (sw (rng 48 57) 3 : Nat)]] w fun e w' => e = .returned (SV (orP (orP (rng 97 122) (rng 65 90)) (rng 48 57))) ∧ Below w.heap.size w w') := fun w => Lib.hid (ror_any (orP (rng 97 122) (rng 65 90)) (rng 48 57) w)
  have Z1 : ∀ w, Hid (Calls Tryd.prog 23 #[.agg #[.int .u64 (sw (rng 33 126) 0 : Nat), .int .u64 (sw (rng 33 126) 1 : Nat), .int .u64 (sw (rng 33 126) 2 : Nat), .int .u64 (sw (rng 33 126) 3 : Nat)]] w fun e w' => e = .returned (SV (fun c => !rng 33 126 c)) ∧ Below w.heap.size w w') := fun w => Lib.hid (rnot_any (rng 33 126) w)
  have Z2 : ∀ w, Hid (Calls Tryd.prog 25 #[.agg #[.int .u64 (sw (fun c => !rng 33 126 c) 0 : Nat), .int .u64 (sw (fun c => !rng 33 126 c) 1 : Nat), .int .u64 (sw (fun c => !rng 33 126 c) 2 : Nat), .int .u64 (sw (fun c => !rng 33 126 c) 3 : Nat)], .agg #[.int .u64 (sw (orP (orP (rng 97 122) (rng 65 90)) (rng 48 57)) 0 : Nat), .int .u64 (sw (orP (orP (rng 97 122) (rng 65 90)) (rng 48 57)) 1 : Nat), .int .u64 (sw (orP (orP (rng 97 122) (rng 65 90)) (rng 48 57)) 2 : Nat), .int .u64 (sw (orP (orP (rng 97 122) (rng 65 90)) (rng 48 57)) 3 : Nat)]] w fun e w' => e = .returned (SV (orP (fun c => !rng 33 126 c) (orP (orP (rng 97 122) (rng 65 90)) (rng 48 57)))) ∧ Below w.heap.size w w') := fun w => Lib.hid (ror_any (fun c => !rng 33 126 c) (orP (orP (rng 97 122) (rng 65 90)) (rng 48 57)) w)
  have Z3 : ∀ w, Hid (Calls Tryd.prog 23 #[.agg #[.int .u64 (sw (orP (fun c => !rng 33 126 c) (orP (orP (rng 97 122) (rng 65 90)) (rng 48 57))) 0 : Nat), .int .u64 (sw (orP (fun c => !rng 33 126 c) (orP (orP (rng 97 122) (rng 65 90)) (rng 48 57))) 1 : Nat), .int .u64 (sw (orP (fun c => !rng 33 126 c) (orP (orP (rng 97 122) (rng 65 90)) (rng 48 57))) 2 : Nat), .int .u64 (sw (orP (fun c => !rng 33 126 c) (orP (orP (rng 97 122) (rng 65 90)) (rng 48 57))) 3 : Nat)]] w fun e w' => e = .returned (SV (fun c => !orP (fun c => !rng 33 126 c) (orP (orP (rng 97 122) (rng 65 90)) (rng 48 57)) c)) ∧ Below w.heap.size w w') := fun w => Lib.hid (rnot_any (orP (fun c => !rng 33 126 c) (orP (orP (rng 97 122) (rng 65 90)) (rng 48 57))) w)
  go_enter Tryd.func38, Tryd.ntmps38
  go_wp2_with fail
  have HB0 : Hid (Below (w.heap.size + 1) (w.alloc (.cells #[.int .u64 0, .int .u64 0, .int .u64 0, .int .u64 0] 39)) (w.alloc (.cells #[.int .u64 0, .int .u64 0, .int .u64 0, .int .u64 0] 39))) := Lib.hid (Below.refl _ _)
  refine (X1 _).out.mono ?_
  rintro e w1 ⟨rfl, hb1⟩
  have HB1 := Lib.hid (HB0.out.trans (hb1.mono (bsz HB0.out)))
  clear hb1
  go_wp2_with fail
  refine (X2 _).out.mono ?_
  rintro e w2 ⟨rfl, hb2⟩
  have HB2 := Lib.hid (HB1.out.trans (hb2.mono (bsz HB1.out)))
  clear hb2
  go_wp2_with fail
  refine (X3 _).out.mono ?_
  rintro e w3 ⟨rfl, hb3⟩
  have HB3 := Lib.hid (HB2.out.trans (hb3.mono (bsz HB2.out)))
  clear hb3
  go_wp2_with fail
  refine (X4 _).out.mono ?_
  rintro e w4 ⟨rfl, hb4⟩
  have HB4 := Lib.hid (HB3.out.trans (hb4.mono (bsz HB3.out)))
  clear hb4
  unfold SV
  go_wp2_with fail
  have HKS := RB.start w w4 HB4.out
  have HBW := Lib.hid ((((HB4.out.alloc (bsz HB4.out) (.cells #[.int .u64 (sw (rng 97 122) 0 : Nat), .int .u64 (sw (rng 97 122) 1 : Nat), .int .u64 (sw (rng 97 122) 2 : Nat), .int .u64 (sw (rng 97 122) 3 : Nat)] 39)).alloc (by have := HB4.out.size; simp at this; simp; omega) (.cells #[.int .u64 (sw (rng 65 90) 0 : Nat), .int .u64 (sw (rng 65 90) 1 : Nat), .int .u64 (sw (rng 65 90) 2 : Nat), .int .u64 (sw (rng 65 90) 3 : Nat)] 39)).alloc (by have := HB4.out.size; simp at this; simp; omega) (.cells #[.int .u64 (sw (rng 48 57) 0 : Nat), .int .u64 (sw (rng 48 57) 1 : Nat), .int .u64 (sw (rng 48 57) 2 : Nat), .int .u64 (sw (rng 48 57) 3 : Nat)] 39)).alloc (by have := HB4.out.size; simp at this; simp; omega) (.cells #[.int .u64 (sw (rng 33 126) 0 : Nat), .int .u64 (sw (rng 33 126) 1 : Nat), .int .u64 (sw (rng 33 126) 2 : Nat), .int .u64 (sw (rng 33 126) 3 : Nat)] 39))
  obtain ⟨V, hV⟩ : ∃ V, V = (((w4.alloc (.cells #[.int .u64 (sw (rng 97 122) 0 : Nat), .int .u64 (sw (rng 97 122) 1 : Nat), .int .u64 (sw (rng 97 122) 2 : Nat), .int .u64 (sw (rng 97 122) 3 : Nat)] 39)).alloc (.cells #[.int .u64 (sw (rng 65 90) 0 : Nat), .int .u64 (sw (rng 65 90) 1 : Nat), .int .u64 (sw (rng 65 90) 2 : Nat), .int .u64 (sw (rng 65 90) 3 : Nat)] 39)).alloc (.cells #[.int .u64 (sw (rng 48 57) 0 : Nat), .int .u64 (sw (rng 48 57) 1 : Nat), .int .u64 (sw (rng 48 57) 2 : Nat), .int .u64 (sw (rng 48 57) 3 : Nat)] 39)).alloc (.cells #[.int .u64 (sw (rng 33 126) 0 : Nat), .int .u64 (sw (rng 33 126) 1 : Nat), .int .u64 (sw (rng 33 126) 2 : Nat), .int .u64 (sw (rng 33 126) 3 : Nat)] 39) := ⟨_, rfl⟩
  rw [← hV] at HKS HBW ⊢
  clear hV
  have HY0 : Hid (RB w w4.heap.size V.drew) := Lib.hid (HKS.nxt (Below.refl _ _).drew)
  have HBV : Hid (Below (w.heap.size + 1) (w.alloc (.cells #[.int .u64 0, .int .u64 0, .int .u64 0, .int .u64 0] 39)) V.drew) := Lib.hid HBW.out.drew
  clear HKS HBW
  refine wp_region_held (S := fun X => RB w w4.heap.size X) (by kernel_rfl) ?_
  try (change wpAnyH _ _ _ _ _ _ _ _ (World.drew _))
  generalize V.drew = X0 at *
  refine wpAnyH_take (i := 0) (v := .agg #[.int .u64 (sw (rng 97 122) 0 : Nat), .int .u64 (sw (rng 97 122) 1 : Nat), .int .u64 (sw (rng 97 122) 2 : Nat), .int .u64 (sw (rng 97 122) 3 : Nat)]) rfl (by kernel_rfl) (by kernel_rfl) (by kernel_rfl) (fun _ _ _ h => h) (Or.inl ⟨by kernel_rfl, ?_⟩) HY0.out ?_
  · intro X hS; obtain ⟨_, _, hS3, hS4, hS5, hS6⟩ := hS; obtain ⟨⟨z0, z1, z2, z3⟩, _⟩ := blk4 hS3; clear hS3 hS4 hS5 hS6; go_simp
  try simp only [Act.put, List.setIfInBounds_toArray]
  refine wpAnyH_take (i := 1) (v := .agg #[.int .u64 (sw (rng 65 90) 0 : Nat), .int .u64 (sw (rng 65 90) 1 : Nat), .int .u64 (sw (rng 65 90) 2 : Nat), .int .u64 (sw (rng 65 90) 3 : Nat)]) rfl (by kernel_rfl) (by kernel_rfl) (by kernel_rfl) (fun _ _ _ h => h) (Or.inl ⟨by kernel_rfl, ?_⟩) HY0.out ?_
  · intro X hS; obtain ⟨_, _, hS3, hS4, hS5, hS6⟩ := hS; obtain ⟨⟨z0, z1, z2, z3⟩, _⟩ := blk4 hS4; clear hS3 hS4 hS5 hS6; go_simp
  try simp only [Act.put]
  refine wpAnyH_take (i := 3) (v := .agg #[.int .u64 (sw (rng 48 57) 0 : Nat), .int .u64 (sw (rng 48 57) 1 : Nat), .int .u64 (sw (rng 48 57) 2 : Nat), .int .u64 (sw (rng 48 57) 3 : Nat)]) rfl (by kernel_rfl) (by kernel_rfl) (by kernel_rfl) (fun _ _ _ h => h) (Or.inl ⟨by kernel_rfl, ?_⟩) HY0.out ?_
  · intro X hS; obtain ⟨_, _, hS3, hS4, hS5, hS6⟩ := hS; obtain ⟨⟨z0, z1, z2, z3⟩, _⟩ := blk4 hS5; clear hS3 hS4 hS5 hS6; go_simp
  try simp only [Act.put]
  have HYX0 := HY0
  have HBX0 := HBV
  refine wpAnyH_all (rs := [2, 5]) (by kernel_rfl) (by simp) ?_
  intro ii hii
  simp only [List.mem_cons, List.not_mem_nil, or_false] at hii
  rcases hii with rfl | rfl
  · skip
    refine wpOp_step (by rfl) ?_
    intro K' hK'
    go_simp
    go_at_call 25
    refine (Y1 _).out.mono ?_
    rintro e A1 ⟨rfl, hbc⟩
    have HYA1 := Lib.hid (HYX0.out.nxt hbc)
    have HBA1 := Lib.hid (HBX0.out.trans (hbc.mono (bsz HBX0.out)))
    clear hbc
    unfold SV
    refine hK' _ _ ⟨HYA1.out, ?_⟩
    clear hK'
    refine wpAnyH_all (rs := [4, 5]) (by kernel_rfl) (by simp) ?_
    intro ii hii
    simp only [List.mem_cons, List.not_mem_nil, or_false] at hii
    rcases hii with rfl | rfl
    · skip
      refine wpOp_step (by rfl) ?_
      intro K' hK'
      go_simp
      go_at_call 25
      refine (Y2 _).out.mono ?_
      rintro e A2 ⟨rfl, hbc⟩
      have HYA2 := Lib.hid (HYA1.out.nxt hbc)
      have HBA2 := Lib.hid (HBA1.out.trans (hbc.mono (bsz HBA1.out)))
      clear hbc
      unfold SV
      refine hK' _ _ ⟨HYA2.out, ?_⟩
      clear hK'
      refine wpAnyH_all (rs := [5]) (by kernel_rfl) (by simp) ?_
      intro ii hii
      rw [List.mem_singleton] at hii
      subst hii
      refine wpOp_step (by rfl) ?_
      intro K' hK'
      go_simp
      obtain ⟨A3, hV⟩ : ∃ V, V = A2.alloc (.cells #[.int .u64 0, .int .u64 0, .int .u64 0, .int .u64 0] 39) := ⟨_, rfl⟩
      rw [← hV]
      have HYA3 : Hid (RB w w4.heap.size A3) := Lib.hid (by rw [hV]; exact HYA2.out.nxt ((Below.refl _ _).alloc (Nat.le_refl _) _))
      have HBA3 : Hid (Below (w.heap.size + 1) (w.alloc (.cells #[.int .u64 0, .int .u64 0, .int .u64 0, .int .u64 0] 39)) A3) := Lib.hid (by rw [hV]; exact HBA2.out.trans (((Below.refl _ _).alloc (Nat.le_refl _) _).mono (bsz HBA2.out)))
      have HGA3 : Hid (A3.heap[A2.heap.size]? = some (.cells #[.int .u64 0, .int .u64 0, .int .u64 0, .int .u64 0] 39)) := Lib.hid (by rw [hV]; exact alloc_last4 _ _)
      have hg8 : w4.heap.size + 1 + 1 + 1 < A2.heap.size := lt_blk HYA2.out.2.2.2.2.2
      have hg9 : w.heap.size + 1 ≤ w4.heap.size := HYA2.out.2.1
      clear hV
      refine hK' _ _ ⟨HYA3.out, ?_⟩
      clear hK'
      obtain ⟨⟨t0, t1, t2, t3⟩, ⟨u0, u1, u2, u3⟩, uz⟩ := blk4f HGA3.out
      refine wpAnyH_all (rs := [6]) (by kernel_rfl) (by simp) ?_
      intro ii hii
      rw [List.mem_singleton] at hii
      subst hii
      refine wpOp_step (by rfl) ?_
      intro K' hK'
      go_simp
      obtain ⟨A3s, hV⟩ : ∃ V, V = (((A3.setCell ⟨A2.heap.size, 0, none⟩ (.int .u64 (sw (orP (orP (rng 97 122) (rng 65 90)) (rng 48 57)) 0 : Nat))).setCell ⟨A2.heap.size, 1, none⟩ (.int .u64 (sw (orP (orP (rng 97 122) (rng 65 90)) (rng 48 57)) 1 : Nat))).setCell ⟨A2.heap.size, 2, none⟩ (.int .u64 (sw (orP (orP (rng 97 122) (rng 65 90)) (rng 48 57)) 2 : Nat))).setCell ⟨A2.heap.size, 3, none⟩ (.int .u64 (sw (orP (orP (rng 97 122) (rng 65 90)) (rng 48 57)) 3 : Nat)) := ⟨_, rfl⟩
      rw [← hV]
      have HYA3s : Hid (RB w w4.heap.size A3s) := Lib.hid (by rw [hV]; exact (((HYA3.out.set _ 0 _ (Or.inr hg8)).set _ 1 _ (Or.inr hg8)).set _ 2 _ (Or.inr hg8)).set _ 3 _ (Or.inr hg8))
      have HBA3s : Hid (Below (w.heap.size + 1) (w.alloc (.cells #[.int .u64 0, .int .u64 0, .int .u64 0, .int .u64 0] 39)) A3s) := Lib.hid (by rw [hV]; exact (((HBA3.out.setCell (by simp; omega) _).setCell (by simp; omega) _).setCell (by simp; omega) _).setCell (by simp; omega) _)
      have HRA3s : Hid (Row4 A3s A2.heap.size 0 (orP (orP (rng 97 122) (rng 65 90)) (rng 48 57))) := Lib.hid (by rw [hV]; exact row4_put (p := noP) (orP (orP (rng 97 122) (rng 65 90)) (rng 48 57)) (row_no t0 t1 t2 t3))
      have hgz : A2.heap.size < A3s.heap.size := by rw [hV]; simpa using uz
      clear hV t0 t1 t2 t3 u0 u1 u2 u3 uz
      refine hK' _ _ ⟨HYA3s.out, ?_⟩
      clear hK'
      refine wpAnyH_done (by kernel_rfl) ?_ _
      go_wp2_with fail
      have HYd : Hid (RB w w4.heap.size A3s.drew) := Lib.hid (HYA3s.out.nxt (Below.refl _ _).drew)
      have HBd : Hid (Below (w.heap.size + 1) (w.alloc (.cells #[.int .u64 0, .int .u64 0, .int .u64 0, .int .u64 0] 39)) A3s.drew) := Lib.hid HBA3s.out.drew
      have HRd : Hid (Row4 A3s.drew (A2.heap.size) 0 (orP (orP (rng 97 122) (rng 65 90)) (rng 48 57))) := Lib.hid HRA3s.out
      have hgd : (A2.heap.size) < A3s.drew.heap.size := hgz
      have HSd : Hid (RB w w4.heap.size A3s.drew ∧ Row4 A3s.drew (A2.heap.size) 0 (orP (orP (rng 97 122) (rng 65 90)) (rng 48 57))) := Lib.hid ⟨HYd.out, HRd.out⟩
      refine wp_region_held (S := fun X => RB w w4.heap.size X ∧ Row4 X (A2.heap.size) 0 (orP (orP (rng 97 122) (rng 65 90)) (rng 48 57))) (by kernel_rfl) ?_
      try (change wpAnyH _ _ _ _ _ _ _ _ (World.drew _))
      generalize A3s.drew = G0 at *
      refine wpAnyH_take (i := 0) (v := .agg #[.int .u64 (sw (rng 33 126) 0 : Nat), .int .u64 (sw (rng 33 126) 1 : Nat), .int .u64 (sw (rng 33 126) 2 : Nat), .int .u64 (sw (rng 33 126) 3 : Nat)]) rfl (by kernel_rfl) (by kernel_rfl) (by kernel_rfl) (fun _ _ _ h => h) (Or.inl ⟨by kernel_rfl, ?_⟩) HSd.out ?_
      · intro X hS; obtain ⟨⟨_, _, hS3, hS4, hS5, hS6⟩, _⟩ := hS; obtain ⟨⟨z0, z1, z2, z3⟩, _⟩ := blk4 hS6; clear hS3 hS4 hS5 hS6; go_simp
      try simp only [Act.put, List.setIfInBounds_toArray]
      refine wpAnyH_take (i := 2) (v := .agg #[.int .u64 (sw (orP (orP (rng 97 122) (rng 65 90)) (rng 48 57)) 0 : Nat), .int .u64 (sw (orP (orP (rng 97 122) (rng 65 90)) (rng 48 57)) 1 : Nat), .int .u64 (sw (orP (orP (rng 97 122) (rng 65 90)) (rng 48 57)) 2 : Nat), .int .u64 (sw (orP (orP (rng 97 122) (rng 65 90)) (rng 48 57)) 3 : Nat)]) rfl (by kernel_rfl) (by kernel_rfl) (by kernel_rfl) (fun _ _ _ h => h) (Or.inl ⟨by kernel_rfl, ?_⟩) HSd.out ?_
      · intro X hS; obtain ⟨_, z0, z1', z2', z3'⟩ := hS; have z1 : X.cell? ⟨A2.heap.size, 1, none⟩ = _ := z1'; have z2 : X.cell? ⟨A2.heap.size, 2, none⟩ = _ := z2'; have z3 : X.cell? ⟨A2.heap.size, 3, none⟩ = _ := z3'; clear z1' z2' z3'; go_simp
      try simp only [Act.put]
      refine wpAnyH_all (rs := [1]) (by kernel_rfl) (by simp) ?_
      intro ii hii
      rw [List.mem_singleton] at hii
      subst hii
      refine wpOp_step (by rfl) ?_
      intro K' hK'
      go_simp
      go_at_call 23
      refine (Z1 _).out.mono ?_
      rintro e G1 ⟨rfl, hbc⟩
      have HYG1 := Lib.hid (HYd.out.nxt hbc)
      have HBG1 := Lib.hid (HBd.out.trans (hbc.mono (bsz HBd.out)))
      have HRG1 := Lib.hid (row4_bel HRd.out hbc hgd)
      have hgdG1 : (A2.heap.size) < G1.heap.size := Nat.lt_of_lt_of_le hgd hbc.size
      clear hbc
      unfold SV
      refine hK' _ _ ⟨⟨HYG1.out, HRG1.out⟩, ?_⟩
      clear hK'
      refine wpAnyH_all (rs := [3]) (by kernel_rfl) (by simp) ?_
      intro ii hii
      rw [List.mem_singleton] at hii
      subst hii
      refine wpOp_step (by rfl) ?_
      intro K' hK'
      go_simp
      go_at_call 25
      refine (Z2 _).out.mono ?_
      rintro e G2 ⟨rfl, hbc⟩
      have HYG2 := Lib.hid (HYG1.out.nxt hbc)
      have HBG2 := Lib.hid (HBG1.out.trans (hbc.mono (bsz HBG1.out)))
      have HRG2 := Lib.hid (row4_bel HRG1.out hbc hgdG1)
      have hgdG2 : (A2.heap.size) < G2.heap.size := Nat.lt_of_lt_of_le hgdG1 hbc.size
      clear hbc
      unfold SV
      refine hK' _ _ ⟨⟨HYG2.out, HRG2.out⟩, ?_⟩
      clear hK'
      refine wpAnyH_all (rs := [4]) (by kernel_rfl) (by simp) ?_
      intro ii hii
      rw [List.mem_singleton] at hii
      subst hii
      refine wpOp_step (by rfl) ?_
      intro K' hK'
      go_simp
      go_at_call 23
      refine (Z3 _).out.mono ?_
      rintro e G3 ⟨rfl, hbc⟩
      have HYG3 := Lib.hid (HYG2.out.nxt hbc)
      have HBG3 := Lib.hid (HBG2.out.trans (hbc.mono (bsz HBG2.out)))
      have HRG3 := Lib.hid (row4_bel HRG2.out hbc hgdG2)
      have hgdG3 : (A2.heap.size) < G3.heap.size := Nat.lt_of_lt_of_le hgdG2 hbc.size
      clear hbc
      unfold SV
      refine hK' _ _ ⟨⟨HYG3.out, HRG3.out⟩, ?_⟩
      clear hK'
      obtain ⟨r0, r1, r2, r3, s0, s1, s2, s3, rz⟩ := res_facts HBG3.out (Nat.lt_succ_self _)
      refine wpAnyH_all (rs := [5]) (by kernel_rfl) (by simp) ?_
      intro ii hii
      rw [List.mem_singleton] at hii
      subst hii
      refine wpOp_step (by rfl) ?_
      intro K' hK'
      go_simp
      refine hK' _ _ ⟨⟨(((HYG3.out.set _ 0 _ (Or.inl rfl)).set _ 1 _ (Or.inl rfl)).set _ 2 _ (Or.inl rfl)).set _ 3 _ (Or.inl rfl), row4_far HRG3.out (by omega)⟩, ?_⟩
      clear hK'
      refine wpAnyH_all (rs := [6]) (by kernel_rfl) (by simp) ?_
      intro ii hii
      rw [List.mem_singleton] at hii
      subst hii
      refine wpOp_step (by rfl) ?_
      intro K' hK'
      go_simp
      refine hK' _ _ ⟨⟨(((HYG3.out.set _ 0 _ (Or.inl rfl)).set _ 1 _ (Or.inl rfl)).set _ 2 _ (Or.inl rfl)).set _ 3 _ (Or.inl rfl), row4_far HRG3.out (by omega)⟩, ?_⟩
      clear hK'
      refine wpAnyH_done (by kernel_rfl) ?_ _
      go_wp2
      exact bodyPost_ret (by simp [results, Tryd.results38, go_sem, r0, r1, r2, r3]; rfl) rfl ⟨rfl, res_below HBG3.out _ _ _ _⟩
    · skip
      refine wpOp_step (by rfl) ?_
      intro K' hK'
      go_simp
      obtain ⟨C2, hV⟩ : ∃ V, V = A1.alloc (.cells #[.int .u64 0, .int .u64 0, .int .u64 0, .int .u64 0] 39) := ⟨_, rfl⟩
      rw [← hV]
      have HYC2 : Hid (RB w w4.heap.size C2) := Lib.hid (by rw [hV]; exact HYA1.out.nxt ((Below.refl _ _).alloc (Nat.le_refl _) _))
      have HBC2 : Hid (Below (w.heap.size + 1) (w.alloc (.cells #[.int .u64 0, .int .u64 0, .int .u64 0, .int .u64 0] 39)) C2) := Lib.hid (by rw [hV]; exact HBA1.out.trans (((Below.refl _ _).alloc (Nat.le_refl _) _).mono (bsz HBA1.out)))
      have HGC2 : Hid (C2.heap[A1.heap.size]? = some (.cells #[.int .u64 0, .int .u64 0, .int .u64 0, .int .u64 0] 39)) := Lib.hid (by rw [hV]; exact alloc_last4 _ _)
      have hg8 : w4.heap.size + 1 + 1 + 1 < A1.heap.size := lt_blk HYA1.out.2.2.2.2.2
      have hg9 : w.heap.size + 1 ≤ w4.heap.size := HYA1.out.2.1
      clear hV
      refine hK' _ _ ⟨HYC2.out, ?_⟩
      clear hK'
      refine wpAnyH_all (rs := [4]) (by kernel_rfl) (by simp) ?_
      intro ii hii
      rw [List.mem_singleton] at hii
      subst hii
      refine wpOp_step (by rfl) ?_
      intro K' hK'
      go_simp
      go_at_call 25
      refine (Y2 _).out.mono ?_
      rintro e C3 ⟨rfl, hbc⟩
      have HYC3 := Lib.hid (HYC2.out.nxt hbc)
      have HBC3 := Lib.hid (HBC2.out.trans (hbc.mono (bsz HBC2.out)))
      have HGC3 := Lib.hid ((hbc.block _ (lt_blk HGC2.out)).trans HGC2.out)
      clear hbc
      unfold SV
      refine hK' _ _ ⟨HYC3.out, ?_⟩
      clear hK'
      obtain ⟨⟨t0, t1, t2, t3⟩, ⟨u0, u1, u2, u3⟩, uz⟩ := blk4f HGC3.out
      refine wpAnyH_all (rs := [6]) (by kernel_rfl) (by simp) ?_
      intro ii hii
      rw [List.mem_singleton] at hii
      subst hii
      refine wpOp_step (by rfl) ?_
      intro K' hK'
      go_simp
      obtain ⟨C3s, hV⟩ : ∃ V, V = (((C3.setCell ⟨A1.heap.size, 0, none⟩ (.int .u64 (sw (orP (orP (rng 97 122) (rng 65 90)) (rng 48 57)) 0 : Nat))).setCell ⟨A1.heap.size, 1, none⟩ (.int .u64 (sw (orP (orP (rng 97 122) (rng 65 90)) (rng 48 57)) 1 : Nat))).setCell ⟨A1.heap.size, 2, none⟩ (.int .u64 (sw (orP (orP (rng 97 122) (rng 65 90)) (rng 48 57)) 2 : Nat))).setCell ⟨A1.heap.size, 3, none⟩ (.int .u64 (sw (orP (orP (rng 97 122) (rng 65 90)) (rng 48 57)) 3 : Nat)) := ⟨_, rfl⟩
      rw [← hV]
      have HYC3s : Hid (RB w w4.heap.size C3s) := Lib.hid (by rw [hV]; exact (((HYC3.out.set _ 0 _ (Or.inr hg8)).set _ 1 _ (Or.inr hg8)).set _ 2 _ (Or.inr hg8)).set _ 3 _ (Or.inr hg8))
      have HBC3s : Hid (Below (w.heap.size + 1) (w.alloc (.cells #[.int .u64 0, .int .u64 0, .int .u64 0, .int .u64 0] 39)) C3s) := Lib.hid (by rw [hV]; exact (((HBC3.out.setCell (by simp; omega) _).setCell (by simp; omega) _).setCell (by simp; omega) _).setCell (by simp; omega) _)
      have HRC3s : Hid (Row4 C3s A1.heap.size 0 (orP (orP (rng 97 122) (rng 65 90)) (rng 48 57))) := Lib.hid (by rw [hV]; exact row4_put (p := noP) (orP (orP (rng 97 122) (rng 65 90)) (rng 48 57)) (row_no t0 t1 t2 t3))
      have hgz : A1.heap.size < C3s.heap.size := by rw [hV]; simpa using uz
      clear hV t0 t1 t2 t3 u0 u1 u2 u3 uz
      refine hK' _ _ ⟨HYC3s.out, ?_⟩
      clear hK'
      refine wpAnyH_done (by kernel_rfl) ?_ _
      go_wp2_with fail
      have HYd : Hid (RB w w4.heap.size C3s.drew) := Lib.hid (HYC3s.out.nxt (Below.refl _ _).drew)
      have HBd : Hid (Below (w.heap.size + 1) (w.alloc (.cells #[.int .u64 0, .int .u64 0, .int .u64 0, .int .u64 0] 39)) C3s.drew) := Lib.hid HBC3s.out.drew
      have HRd : Hid (Row4 C3s.drew (A1.heap.size) 0 (orP (orP (rng 97 122) (rng 65 90)) (rng 48 57))) := Lib.hid HRC3s.out
      have hgd : (A1.heap.size) < C3s.drew.heap.size := hgz
      have HSd : Hid (RB w w4.heap.size C3s.drew ∧ Row4 C3s.drew (A1.heap.size) 0 (orP (orP (rng 97 122) (rng 65 90)) (rng 48 57))) := Lib.hid ⟨HYd.out, HRd.out⟩
      refine wp_region_held (S := fun X => RB w w4.heap.size X ∧ Row4 X (A1.heap.size) 0 (orP (orP (rng 97 122) (rng 65 90)) (rng 48 57))) (by kernel_rfl) ?_
      try (change wpAnyH _ _ _ _ _ _ _ _ (World.drew _))
      generalize C3s.drew = G0 at *
      refine wpAnyH_take (i := 0) (v := .agg #[.int .u64 (sw (rng 33 126) 0 : Nat), .int .u64 (sw (rng 33 126) 1 : Nat), .int .u64 (sw (rng 33 126) 2 : Nat), .int .u64 (sw (rng 33 126) 3 : Nat)]) rfl (by kernel_rfl) (by kernel_rfl) (by kernel_rfl) (fun _ _ _ h => h) (Or.inl ⟨by kernel_rfl, ?_⟩) HSd.out ?_
      · intro X hS; obtain ⟨⟨_, _, hS3, hS4, hS5, hS6⟩, _⟩ := hS; obtain ⟨⟨z0, z1, z2, z3⟩, _⟩ := blk4 hS6; clear hS3 hS4 hS5 hS6; go_simp
      try simp only [Act.put, List.setIfInBounds_toArray]
      refine wpAnyH_take (i := 2) (v := .agg #[.int .u64 (sw (orP (orP (rng 97 122) (rng 65 90)) (rng 48 57)) 0 : Nat), .int .u64 (sw (orP (orP (rng 97 122) (rng 65 90)) (rng 48 57)) 1 : Nat), .int .u64 (sw (orP (orP (rng 97 122) (rng 65 90)) (rng 48 57)) 2 : Nat), .int .u64 (sw (orP (orP (rng 97 122) (rng 65 90)) (rng 48 57)) 3 : Nat)]) rfl (by kernel_rfl) (by kernel_rfl) (by kernel_rfl) (fun _ _ _ h => h) (Or.inl ⟨by kernel_rfl, ?_⟩) HSd.out ?_
      · intro X hS; obtain ⟨_, z0, z1', z2', z3'⟩ := hS; have z1 : X.cell? ⟨A1.heap.size, 1, none⟩ = _ := z1'; have z2 : X.cell? ⟨A1.heap.size, 2, none⟩ = _ := z2'; have z3 : X.cell? ⟨A1.heap.size, 3, none⟩ = _ := z3'; clear z1' z2' z3'; go_simp
      try simp only [Act.put]
      refine wpAnyH_all (rs := [1]) (by kernel_rfl) (by simp) ?_
      intro ii hii
      rw [List.mem_singleton] at hii
      subst hii
      refine wpOp_step (by rfl) ?_
      intro K' hK'
      go_simp
      go_at_call 23
      refine (Z1 _).out.mono ?_
      rintro e G1 ⟨rfl, hbc⟩
      have HYG1 := Lib.hid (HYd.out.nxt hbc)
      have HBG1 := Lib.hid (HBd.out.trans (hbc.mono (bsz HBd.out)))
      have HRG1 := Lib.hid (row4_bel HRd.out hbc hgd)
      have hgdG1 : (A1.heap.size) < G1.heap.size := Nat.lt_of_lt_of_le hgd hbc.size
      clear hbc
      unfold SV
      refine hK' _ _ ⟨⟨HYG1.out, HRG1.out⟩, ?_⟩
      clear hK'
      refine wpAnyH_all (rs := [3]) (by kernel_rfl) (by simp) ?_
      intro ii hii
      rw [List.mem_singleton] at hii
      subst hii
      refine wpOp_step (by rfl) ?_
      intro K' hK'
      go_simp
      go_at_call 25
      refine (Z2 _).out.mono ?_
      rintro e G2 ⟨rfl, hbc⟩
      have HYG2 := Lib.hid (HYG1.out.nxt hbc)
      have HBG2 := Lib.hid (HBG1.out.trans (hbc.mono (bsz HBG1.out)))
      have HRG2 := Lib.hid (row4_bel HRG1.out hbc hgdG1)
      have hgdG2 : (A1.heap.size) < G2.heap.size := Nat.lt_of_lt_of_le hgdG1 hbc.size
      clear hbc
      unfold SV
      refine hK' _ _ ⟨⟨HYG2.out, HRG2.out⟩, ?_⟩
      clear hK'
      refine wpAnyH_all (rs := [4]) (by kernel_rfl) (by simp) ?_
      intro ii hii
      rw [List.mem_singleton] at hii
      subst hii
      refine wpOp_step (by rfl) ?_
      intro K' hK'
      go_simp
      go_at_call 23
      refine (Z3 _).out.mono ?_
      rintro e G3 ⟨rfl, hbc⟩
      have HYG3 := Lib.hid (HYG2.out.nxt hbc)
      have HBG3 := Lib.hid (HBG2.out.trans (hbc.mono (bsz HBG2.out)))
      have HRG3 := Lib.hid (row4_bel HRG2.out hbc hgdG2)
      have hgdG3 : (A1.heap.size) < G3.heap.size := Nat.lt_of_lt_of_le hgdG2 hbc.size
      clear hbc
      unfold SV
      refine hK' _ _ ⟨⟨HYG3.out, HRG3.out⟩, ?_⟩
      clear hK'
      obtain ⟨r0, r1, r2, r3, s0, s1, s2, s3, rz⟩ := res_facts HBG3.out (Nat.lt_succ_self _)
      refine wpAnyH_all (rs := [5]) (by kernel_rfl) (by simp) ?_
      intro ii hii
      rw [List.mem_singleton] at hii
      subst hii
      refine wpOp_step (by rfl) ?_
      intro K' hK'
      go_simp
      refine hK' _ _ ⟨⟨(((HYG3.out.set _ 0 _ (Or.inl rfl)).set _ 1 _ (Or.inl rfl)).set _ 2 _ (Or.inl rfl)).set _ 3 _ (Or.inl rfl), row4_far HRG3.out (by omega)⟩, ?_⟩
      clear hK'
      refine wpAnyH_all (rs := [6]) (by kernel_rfl) (by simp) ?_
      intro ii hii
      rw [List.mem_singleton] at hii
      subst hii
      refine wpOp_step (by rfl) ?_
      intro K' hK'
      go_simp
      refine hK' _ _ ⟨⟨(((HYG3.out.set _ 0 _ (Or.inl rfl)).set _ 1 _ (Or.inl rfl)).set _ 2 _ (Or.inl rfl)).set _ 3 _ (Or.inl rfl), row4_far HRG3.out (by omega)⟩, ?_⟩
      clear hK'
      refine wpAnyH_done (by kernel_rfl) ?_ _
      go_wp2
      exact bodyPost_ret (by simp [results, Tryd.results38, go_sem, r0, r1, r2, r3]; rfl) rfl ⟨rfl, res_below HBG3.out _ _ _ _⟩
  · skip
    refine wpOp_step (by rfl) ?_
    intro K' hK'
    go_simp
    obtain ⟨D1, hV⟩ : ∃ V, V = X0.alloc (.cells #[.int .u64 0, .int .u64 0, .int .u64 0, .int .u64 0] 39) := ⟨_, rfl⟩
    rw [← hV]
    have HYD1 : Hid (RB w w4.heap.size D1) := Lib.hid (by rw [hV]; exact HYX0.out.nxt ((Below.refl _ _).alloc (Nat.le_refl _) _))
    have HBD1 : Hid (Below (w.heap.size + 1) (w.alloc (.cells #[.int .u64 0, .int .u64 0, .int .u64 0, .int .u64 0] 39)) D1) := Lib.hid (by rw [hV]; exact HBX0.out.trans (((Below.refl _ _).alloc (Nat.le_refl _) _).mono (bsz HBX0.out)))
    have HGD1 : Hid (D1.heap[X0.heap.size]? = some (.cells #[.int .u64 0, .int .u64 0, .int .u64 0, .int .u64 0] 39)) := Lib.hid (by rw [hV]; exact alloc_last4 _ _)
    have hg8 : w4.heap.size + 1 + 1 + 1 < X0.heap.size := lt_blk HYX0.out.2.2.2.2.2
    have hg9 : w.heap.size + 1 ≤ w4.heap.size := HYX0.out.2.1
    clear hV
    refine hK' _ _ ⟨HYD1.out, ?_⟩
    clear hK'
    refine wpAnyH_all (rs := [2]) (by kernel_rfl) (by simp) ?_
    intro ii hii
    rw [List.mem_singleton] at hii
    subst hii
    refine wpOp_step (by rfl) ?_
    intro K' hK'
    go_simp
    go_at_call 25
    refine (Y1 _).out.mono ?_
    rintro e D2 ⟨rfl, hbc⟩
    have HYD2 := Lib.hid (HYD1.out.nxt hbc)
    have HBD2 := Lib.hid (HBD1.out.trans (hbc.mono (bsz HBD1.out)))
    have HGD2 := Lib.hid ((hbc.block _ (lt_blk HGD1.out)).trans HGD1.out)
    clear hbc
    unfold SV
    refine hK' _ _ ⟨HYD2.out, ?_⟩
    clear hK'
    refine wpAnyH_all (rs := [4]) (by kernel_rfl) (by simp) ?_
    intro ii hii
    rw [List.mem_singleton] at hii
    subst hii
    refine wpOp_step (by rfl) ?_
    intro K' hK'
    go_simp
    go_at_call 25
    refine (Y2 _).out.mono ?_
    rintro e D3 ⟨rfl, hbc⟩
    have HYD3 := Lib.hid (HYD2.out.nxt hbc)
    have HBD3 := Lib.hid (HBD2.out.trans (hbc.mono (bsz HBD2.out)))
    have HGD3 := Lib.hid ((hbc.block _ (lt_blk HGD2.out)).trans HGD2.out)
    clear hbc
    unfold SV
    refine hK' _ _ ⟨HYD3.out, ?_⟩
    clear hK'
    obtain ⟨⟨t0, t1, t2, t3⟩, ⟨u0, u1, u2, u3⟩, uz⟩ := blk4f HGD3.out
    refine wpAnyH_all (rs := [6]) (by kernel_rfl) (by simp) ?_
    intro ii hii
    rw [List.mem_singleton] at hii
    subst hii
    refine wpOp_step (by rfl) ?_
    intro K' hK'
    go_simp
    obtain ⟨D3s, hV⟩ : ∃ V, V = (((D3.setCell ⟨X0.heap.size, 0, none⟩ (.int .u64 (sw (orP (orP (rng 97 122) (rng 65 90)) (rng 48 57)) 0 : Nat))).setCell ⟨X0.heap.size, 1, none⟩ (.int .u64 (sw (orP (orP (rng 97 122) (rng 65 90)) (rng 48 57)) 1 : Nat))).setCell ⟨X0.heap.size, 2, none⟩ (.int .u64 (sw (orP (orP (rng 97 122) (rng 65 90)) (rng 48 57)) 2 : Nat))).setCell ⟨X0.heap.size, 3, none⟩ (.int .u64 (sw (orP (orP (rng 97 122) (rng 65 90)) (rng 48 57)) 3 : Nat)) := ⟨_, rfl⟩
    rw [← hV]
    have HYD3s : Hid (RB w w4.heap.size D3s) := Lib.hid (by rw [hV]; exact (((HYD3.out.set _ 0 _ (Or.inr hg8)).set _ 1 _ (Or.inr hg8)).set _ 2 _ (Or.inr hg8)).set _ 3 _ (Or.inr hg8))
    have HBD3s : Hid (Below (w.heap.size + 1) (w.alloc (.cells #[.int .u64 0, .int .u64 0, .int .u64 0, .int .u64 0] 39)) D3s) := Lib.hid (by rw [hV]; exact (((HBD3.out.setCell (by simp; omega) _).setCell (by simp; omega) _).setCell (by simp; omega) _).setCell (by simp; omega) _)
    have HRD3s : Hid (Row4 D3s X0.heap.size 0 (orP (orP (rng 97 122) (rng 65 90)) (rng 48 57))) := Lib.hid (by rw [hV]; exact row4_put (p := noP) (orP (orP (rng 97 122) (rng 65 90)) (rng 48 57)) (row_no t0 t1 t2 t3))
    have hgz : X0.heap.size < D3s.heap.size := by rw [hV]; simpa using uz
    clear hV t0 t1 t2 t3 u0 u1 u2 u3 uz
    refine hK' _ _ ⟨HYD3s.out, ?_⟩
    clear hK'
    refine wpAnyH_done (by kernel_rfl) ?_ _
    go_wp2_with fail
    have HYd : Hid (RB w w4.heap.size D3s.drew) := Lib.hid (HYD3s.out.nxt (Below.refl _ _).drew)
    have HBd : Hid (Below (w.heap.size + 1) (w.alloc (.cells #[.int .u64 0, .int .u64 0, .int .u64 0, .int .u64 0] 39)) D3s.drew) := Lib.hid HBD3s.out.drew
    have HRd : Hid (Row4 D3s.drew (X0.heap.size) 0 (orP (orP (rng 97 122) (rng 65 90)) (rng 48 57))) := Lib.hid HRD3s.out
    have hgd : (X0.heap.size) < D3s.drew.heap.size := hgz
    have HSd : Hid (RB w w4.heap.size D3s.drew ∧ Row4 D3s.drew (X0.heap.size) 0 (orP (orP (rng 97 122) (rng 65 90)) (rng 48 57))) := Lib.hid ⟨HYd.out, HRd.out⟩
    refine wp_region_held (S := fun X => RB w w4.heap.size X ∧ Row4 X (X0.heap.size) 0 (orP (orP (rng 97 122) (rng 65 90)) (rng 48 57))) (by kernel_rfl) ?_
    try (change wpAnyH _ _ _ _ _ _ _ _ (World.drew _))
    generalize D3s.drew = G0 at *
    refine wpAnyH_take (i := 0) (v := .agg #[.int .u64 (sw (rng 33 126) 0 : Nat), .int .u64 (sw (rng 33 126) 1 : Nat), .int .u64 (sw (rng 33 126) 2 : Nat), .int .u64 (sw (rng 33 126) 3 : Nat)]) rfl (by kernel_rfl) (by kernel_rfl) (by kernel_rfl) (fun _ _ _ h => h) (Or.inl ⟨by kernel_rfl, ?_⟩) HSd.out ?_
    · intro X hS; obtain ⟨⟨_, _, hS3, hS4, hS5, hS6⟩, _⟩ := hS; obtain ⟨⟨z0, z1, z2, z3⟩, _⟩ := blk4 hS6; clear hS3 hS4 hS5 hS6; go_simp
    try simp only [Act.put, List.setIfInBounds_toArray]
    refine wpAnyH_take (i := 2) (v := .agg #[.int .u64 (sw (orP (orP (rng 97 122) (rng 65 90)) (rng 48 57)) 0 : Nat), .int .u64 (sw (orP (orP (rng 97 122) (rng 65 90)) (rng 48 57)) 1 : Nat), .int .u64 (sw (orP (orP (rng 97 122) (rng 65 90)) (rng 48 57)) 2 : Nat), .int .u64 (sw (orP (orP (rng 97 122) (rng 65 90)) (rng 48 57)) 3 : Nat)]) rfl (by kernel_rfl) (by kernel_rfl) (by kernel_rfl) (fun _ _ _ h => h) (Or.inl ⟨by kernel_rfl, ?_⟩) HSd.out ?_
    · intro X hS; obtain ⟨_, z0, z1', z2', z3'⟩ := hS; have z1 : X.cell? ⟨X0.heap.size, 1, none⟩ = _ := z1'; have z2 : X.cell? ⟨X0.heap.size, 2, none⟩ = _ := z2'; have z3 : X.cell? ⟨X0.heap.size, 3, none⟩ = _ := z3'; clear z1' z2' z3'; go_simp
    try simp only [Act.put]
    refine wpAnyH_all (rs := [1]) (by kernel_rfl) (by simp) ?_
    intro ii hii
    rw [List.mem_singleton] at hii
    subst hii
    refine wpOp_step (by rfl) ?_
    intro K' hK'
    go_simp
    go_at_call 23
    refine (Z1 _).out.mono ?_
    rintro e G1 ⟨rfl, hbc⟩
    have HYG1 := Lib.hid (HYd.out.nxt hbc)
    have HBG1 := Lib.hid (HBd.out.trans (hbc.mono (bsz HBd.out)))
    have HRG1 := Lib.hid (row4_bel HRd.out hbc hgd)
    have hgdG1 : (X0.heap.size) < G1.heap.size := Nat.lt_of_lt_of_le hgd hbc.size
    clear hbc
    unfold SV
    refine hK' _ _ ⟨⟨HYG1.out, HRG1.out⟩, ?_⟩
    clear hK'
    refine wpAnyH_all (rs := [3]) (by kernel_rfl) (by simp) ?_
    intro ii hii
    rw [List.mem_singleton] at hii
    subst hii
    refine wpOp_step (by rfl) ?_
    intro K' hK'
    go_simp
    go_at_call 25
    refine (Z2 _).out.mono ?_
    rintro e G2 ⟨rfl, hbc⟩
    have HYG2 := Lib.hid (HYG1.out.nxt hbc)
    have HBG2 := Lib.hid (HBG1.out.trans (hbc.mono (bsz HBG1.out)))
    have HRG2 := Lib.hid (row4_bel HRG1.out hbc hgdG1)
    have hgdG2 : (X0.heap.size) < G2.heap.size := Nat.lt_of_lt_of_le hgdG1 hbc.size
    clear hbc
    unfold SV
    refine hK' _ _ ⟨⟨HYG2.out, HRG2.out⟩, ?_⟩
    clear hK'
    refine wpAnyH_all (rs := [4]) (by kernel_rfl) (by simp) ?_
    intro ii hii
    rw [List.mem_singleton] at hii
    subst hii
    refine wpOp_step (by rfl) ?_
    intro K' hK'
    go_simp
    go_at_call 23
    refine (Z3 _).out.mono ?_
    rintro e G3 ⟨rfl, hbc⟩
    have HYG3 := Lib.hid (HYG2.out.nxt hbc)
    have HBG3 := Lib.hid (HBG2.out.trans (hbc.mono (bsz HBG2.out)))
    have HRG3 := Lib.hid (row4_bel HRG2.out hbc hgdG2)
    have hgdG3 : (X0.heap.size) < G3.heap.size := Nat.lt_of_lt_of_le hgdG2 hbc.size
    clear hbc
    unfold SV
    refine hK' _ _ ⟨⟨HYG3.out, HRG3.out⟩, ?_⟩
    clear hK'
    obtain ⟨r0, r1, r2, r3, s0, s1, s2, s3, rz⟩ := res_facts HBG3.out (Nat.lt_succ_self _)
    refine wpAnyH_all (rs := [5]) (by kernel_rfl) (by simp) ?_
    intro ii hii
    rw [List.mem_singleton] at hii
    subst hii
    refine wpOp_step (by rfl) ?_
    intro K' hK'
    go_simp
    refine hK' _ _ ⟨⟨(((HYG3.out.set _ 0 _ (Or.inl rfl)).set _ 1 _ (Or.inl rfl)).set _ 2 _ (Or.inl rfl)).set _ 3 _ (Or.inl rfl), row4_far HRG3.out (by omega)⟩, ?_⟩
    clear hK'
    refine wpAnyH_all (rs := [6]) (by kernel_rfl) (by simp) ?_
    intro ii hii
    rw [List.mem_singleton] at hii
    subst hii
    refine wpOp_step (by rfl) ?_
    intro K' hK'
    go_simp
    refine hK' _ _ ⟨⟨(((HYG3.out.set _ 0 _ (Or.inl rfl)).set _ 1 _ (Or.inl rfl)).set _ 2 _ (Or.inl rfl)).set _ 3 _ (Or.inl rfl), row4_far HRG3.out (by omega)⟩, ?_⟩
    clear hK'
    refine wpAnyH_done (by kernel_rfl) ?_ _
    go_wp2
    exact bodyPost_ret (by simp [results, Tryd.results38, go_sem, r0, r1, r2, r3]; rfl) rfl ⟨rfl, res_below HBG3.out _ _ _ _⟩
end Go.Proofs.YtoodpajbefffhaaDoor
/- The contract of the reference's Class at xdigit (gen_refclass.py). -/
namespace Go.Proofs.YtoodpajbefffhaaDoor
open Go.RowKit

set_option maxRecDepth 100000 in
set_option maxHeartbeats 16000000 in
theorem rclass_xdigit (w : World) :
    Calls Tryd.prog 38 #[.string ⟨#[120, 100, 105, 103, 105, 116]⟩] w fun e w' => e = .returned (.tuple #[SV (orP (rng 48 57) (orP (rng 97 102) (rng 65 70))), .bool true]) ∧ Below w.heap.size w w' := by
  have X1 : ∀ w, Hid (Calls Tryd.prog 26 #[.int .u8 97, .int .u8 122] w fun e w' => e = .returned (SV (rng 97 122)) ∧ Below w.heap.size w w') := fun w => Lib.hid (rrange_any 97 122 (by omega) (by omega) w)
  have X2 : ∀ w, Hid (Calls Tryd.prog 26 #[.int .u8 65, .int .u8 90] w fun e w' => e = .returned (SV (rng 65 90)) ∧ Below w.heap.size w w') := fun w => Lib.hid (rrange_any 65 90 (by omega) (by omega) w)
  have X3 : ∀ w, Hid (Calls Tryd.prog 26 #[.int .u8 48, .int .u8 57] w fun e w' => e = .returned (SV (rng 48 57)) ∧ Below w.heap.size w w') := fun w => Lib.hid (rrange_any 48 57 (by omega) (by omega) w)
  have X4 : ∀ w, Hid (Calls Tryd.prog 26 #[.int .u8 33, .int .u8 126] w fun e w' => e = .returned (SV (rng 33 126)) ∧ Below w.heap.size w w') := fun w => Lib.hid (rrange_any 33 126 (by omega) (by omega) w)
  have Y1 : ∀ w, Hid (Calls Tryd.prog 25 #[.agg #[.int .u64 (sw (rng 97 122) 0 : Nat), .int .u64 (sw (rng 97 122) 1 : Nat), .int .u64 (sw (rng 97 122) 2 : Nat), .int .u64 (sw (rng 97 122) 3 : Nat)], .agg #[.int .u64 (sw (rng 65 90) 0 : Nat), .int .u64 (sw (rng 65 90) 1 : Nat), .int .u64 (sw (rng 65 90) 2 : Nat), .int .u64 (sw (rng 65 90) 3 : Nat)]] w fun e w' => e = .returned (SV (orP (rng 97 122) (rng 65 90))) ∧ Below w.heap.size w w') := fun w => Lib.hid (ror_any (rng 97 122) (rng 65 90) w)
  have Y2 : ∀ w, Hid (Calls Tryd.prog 25 #[.agg #[.int .u64 (sw (orP (rng 97 122) (rng 65 90)) 0 : Nat), .int .u64 (sw (orP (rng 97 122) (rng 65 90)) 1 : Nat), .int .u64 (sw (orP (rng 97 122) (rng 65 90)) 2 : Nat), .int .u64 (sw (orP (rng 97 122) (rng 65 90)) 3 : Nat)], .agg #[.int .u64 (sw (rng 48 57) 0 : Nat), .int .u64 (sw (rng 48 57) 1 : Nat), .int .u64 (sw (rng 48 57) 2 : Nat), .int .u64 (sw (rng 48 57) 3 : Nat)]] w fun e w' => e = .returned (SV (orP (orP (rng 97 122) (rng 65 90)) (rng 48 57))) ∧ Below w.heap.size w w') := fun w => Lib.hid (ror_any (orP (rng 97 122) (rng 65 90)) (rng 48 57) w)
  have Z1 : ∀ w, Hid (Calls Tryd.prog 26 #[.int .u8 97, .int .u8 102] w fun e w' => e = .returned (SV (rng 97 102)) ∧ Below w.heap.size w w') := fun w => Lib.hid (rrange_any 97 102 (by omega) (by omega) w)
  have Z2 : ∀ w, Hid (Calls Tryd.prog 26 #[.int .u8 65, .int .u8 70] w fun e w' => e = .returned (SV (rng 65 70)) ∧ Below w.heap.size w w') := fun w => Lib.hid (rrange_any 65 70 (by omega) (by omega) w)
  have Z3 : ∀ w, Hid (Calls Tryd.prog 25 #[.agg #[.int .u64 (sw (rng 97 102) 0 : Nat), .int .u64 (sw (rng 97 102) 1 : Nat), .int .u64 (sw (rng 97 102) 2 : Nat), .int .u64 (sw (rng 97 102) 3 : Nat)], .agg #[.int .u64 (sw (rng 65 70) 0 : Nat), .int .u64 (sw (rng 65 70) 1 : Nat), .int .u64 (sw (rng 65 70) 2 : Nat), .int .u64 (sw (rng 65 70) 3 : Nat)]] w fun e w' => e = .returned (SV (orP (rng 97 102) (rng 65 70))) ∧ Below w.heap.size w w') := fun w => Lib.hid (ror_any (rng 97 102) (rng 65 70) w)
  have Z4 : ∀ w, Hid (Calls Tryd.prog 25 #[.agg #[.int .u64 (sw (rng 48 57) 0 : Nat), .int .u64 (sw (rng 48 57) 1 : Nat), .int .u64 (sw (rng 48 57) 2 : Nat), .int .u64 (sw (rng 48 57) 3 : Nat)], .agg #[.int .u64 (sw (orP (rng 97 102) (rng 65 70)) 0 : Nat), .int .u64 (sw (orP (rng 97 102) (rng 65 70)) 1 : Nat), .int .u64 (sw (orP (rng 97 102) (rng 65 70)) 2 : Nat), .int .u64 (sw (orP (rng 97 102) (rng 65 70)) 3 : Nat)]] w fun e w' => e = .returned (SV (orP (rng 48 57) (orP (rng 97 102) (rng 65 70)))) ∧ Below w.heap.size w w') := fun w => Lib.hid (ror_any (rng 48 57) (orP (rng 97 102) (rng 65 70)) w)
  go_enter Tryd.func38, Tryd.ntmps38
  go_wp2_with fail
  have HB0 : Hid (Below (w.heap.size + 1) (w.alloc (.cells #[.int .u64 0, .int .u64 0, .int .u64 0, .int .u64 0] 39)) (w.alloc (.cells #[.int .u64 0, .int .u64 0, .int .u64 0, .int .u64 0] 39))) := Lib.hid (Below.refl _ _)
  refine (X1 _).out.mono ?_
  rintro e w1 ⟨rfl, hb1⟩
  have HB1 := Lib.hid (HB0.out.trans (hb1.mono (bsz HB0.out)))
  clear hb1
  go_wp2_with fail
  refine (X2 _).out.mono ?_
  rintro e w2 ⟨rfl, hb2⟩
  have HB2 := Lib.hid (HB1.out.trans (hb2.mono (bsz HB1.out)))
  clear hb2
  go_wp2_with fail
  refine (X3 _).out.mono ?_
  rintro e w3 ⟨rfl, hb3⟩
  have HB3 := Lib.hid (HB2.out.trans (hb3.mono (bsz HB2.out)))
  clear hb3
  go_wp2_with fail
  refine (X4 _).out.mono ?_
  rintro e w4 ⟨rfl, hb4⟩
  have HB4 := Lib.hid (HB3.out.trans (hb4.mono (bsz HB3.out)))
  clear hb4
  unfold SV
  go_wp2_with fail
  have HKS := RB.start w w4 HB4.out
  have HBW := Lib.hid ((((HB4.out.alloc (bsz HB4.out) (.cells #[.int .u64 (sw (rng 97 122) 0 : Nat), .int .u64 (sw (rng 97 122) 1 : Nat), .int .u64 (sw (rng 97 122) 2 : Nat), .int .u64 (sw (rng 97 122) 3 : Nat)] 39)).alloc (by have := HB4.out.size; simp at this; simp; omega) (.cells #[.int .u64 (sw (rng 65 90) 0 : Nat), .int .u64 (sw (rng 65 90) 1 : Nat), .int .u64 (sw (rng 65 90) 2 : Nat), .int .u64 (sw (rng 65 90) 3 : Nat)] 39)).alloc (by have := HB4.out.size; simp at this; simp; omega) (.cells #[.int .u64 (sw (rng 48 57) 0 : Nat), .int .u64 (sw (rng 48 57) 1 : Nat), .int .u64 (sw (rng 48 57) 2 : Nat), .int .u64 (sw (rng 48 57) 3 : Nat)] 39)).alloc (by have := HB4.out.size; simp at this; simp; omega) (.cells #[.int .u64 (sw (rng 33 126) 0 : Nat), .int .u64 (sw (rng 33 126) 1 : Nat), .int .u64 (sw (rng 33 126) 2 : Nat), .int .u64 (sw (rng 33 126) 3 : Nat)] 39))
  obtain ⟨V, hV⟩ : ∃ V, V = (((w4.alloc (.cells #[.int .u64 (sw (rng 97 122) 0 : Nat), .int .u64 (sw (rng 97 122) 1 : Nat), .int .u64 (sw (rng 97 122) 2 : Nat), .int .u64 (sw (rng 97 122) 3 : Nat)] 39)).alloc (.cells #[.int .u64 (sw (rng 65 90) 0 : Nat), .int .u64 (sw (rng 65 90) 1 : Nat), .int .u64 (sw (rng 65 90) 2 : Nat), .int .u64 (sw (rng 65 90) 3 : Nat)] 39)).alloc (.cells #[.int .u64 (sw (rng 48 57) 0 : Nat), .int .u64 (sw (rng 48 57) 1 : Nat), .int .u64 (sw (rng 48 57) 2 : Nat), .int .u64 (sw (rng 48 57) 3 : Nat)] 39)).alloc (.cells #[.int .u64 (sw (rng 33 126) 0 : Nat), .int .u64 (sw (rng 33 126) 1 : Nat), .int .u64 (sw (rng 33 126) 2 : Nat), .int .u64 (sw (rng 33 126) 3 : Nat)] 39) := ⟨_, rfl⟩
  rw [← hV] at HKS HBW ⊢
  clear hV
  have HY0 : Hid (RB w w4.heap.size V.drew) := Lib.hid (HKS.nxt (Below.refl _ _).drew)
  have HBV : Hid (Below (w.heap.size + 1) (w.alloc (.cells #[.int .u64 0, .int .u64 0, .int .u64 0, .int .u64 0] 39)) V.drew) := Lib.hid HBW.out.drew
  clear HKS HBW
  refine wp_region_held (S := fun X => RB w w4.heap.size X) (by kernel_rfl) ?_
  try (change wpAnyH _ _ _ _ _ _ _ _ (World.drew _))
  generalize V.drew = X0 at *
  refine wpAnyH_take (i := 0) (v := .agg #[.int .u64 (sw (rng 97 122) 0 : Nat), .int .u64 (sw (rng 97 122) 1 : Nat), .int .u64 (sw (rng 97 122) 2 : Nat), .int .u64 (sw (rng 97 122) 3 : Nat)]) rfl (by kernel_rfl) (by kernel_rfl) (by kernel_rfl) (fun _ _ _ h => h) (Or.inl ⟨by kernel_rfl, ?_⟩) HY0.out ?_
  · intro X hS; obtain ⟨_, _, hS3, hS4, hS5, hS6⟩ := hS; obtain ⟨⟨z0, z1, z2, z3⟩, _⟩ := blk4 hS3; clear hS3 hS4 hS5 hS6; go_simp
  try simp only [Act.put, List.setIfInBounds_toArray]
  refine wpAnyH_take (i := 1) (v := .agg #[.int .u64 (sw (rng 65 90) 0 : Nat), .int .u64 (sw (rng 65 90) 1 : Nat), .int .u64 (sw (rng 65 90) 2 : Nat), .int .u64 (sw (rng 65 90) 3 : Nat)]) rfl (by kernel_rfl) (by kernel_rfl) (by kernel_rfl) (fun _ _ _ h => h) (Or.inl ⟨by kernel_rfl, ?_⟩) HY0.out ?_
  · intro X hS; obtain ⟨_, _, hS3, hS4, hS5, hS6⟩ := hS; obtain ⟨⟨z0, z1, z2, z3⟩, _⟩ := blk4 hS4; clear hS3 hS4 hS5 hS6; go_simp
  try simp only [Act.put]
  refine wpAnyH_take (i := 3) (v := .agg #[.int .u64 (sw (rng 48 57) 0 : Nat), .int .u64 (sw (rng 48 57) 1 : Nat), .int .u64 (sw (rng 48 57) 2 : Nat), .int .u64 (sw (rng 48 57) 3 : Nat)]) rfl (by kernel_rfl) (by kernel_rfl) (by kernel_rfl) (fun _ _ _ h => h) (Or.inl ⟨by kernel_rfl, ?_⟩) HY0.out ?_
  · intro X hS; obtain ⟨_, _, hS3, hS4, hS5, hS6⟩ := hS; obtain ⟨⟨z0, z1, z2, z3⟩, _⟩ := blk4 hS5; clear hS3 hS4 hS5 hS6; go_simp
  try simp only [Act.put]
  have HYX0 := HY0
  have HBX0 := HBV
  refine wpAnyH_all (rs := [2, 5]) (by kernel_rfl) (by simp) ?_
  intro ii hii
  simp only [List.mem_cons, List.not_mem_nil, or_false] at hii
  rcases hii with rfl | rfl
  · skip
    refine wpOp_step (by rfl) ?_
    intro K' hK'
    go_simp
    go_at_call 25
    refine (Y1 _).out.mono ?_
    rintro e A1 ⟨rfl, hbc⟩
    have HYA1 := Lib.hid (HYX0.out.nxt hbc)
    have HBA1 := Lib.hid (HBX0.out.trans (hbc.mono (bsz HBX0.out)))
    clear hbc
    unfold SV
    refine hK' _ _ ⟨HYA1.out, ?_⟩
    clear hK'
    refine wpAnyH_all (rs := [4, 5]) (by kernel_rfl) (by simp) ?_
    intro ii hii
    simp only [List.mem_cons, List.not_mem_nil, or_false] at hii
    rcases hii with rfl | rfl
    · skip
      refine wpOp_step (by rfl) ?_
      intro K' hK'
      go_simp
      go_at_call 25
      refine (Y2 _).out.mono ?_
      rintro e A2 ⟨rfl, hbc⟩
      have HYA2 := Lib.hid (HYA1.out.nxt hbc)
      have HBA2 := Lib.hid (HBA1.out.trans (hbc.mono (bsz HBA1.out)))
      clear hbc
      unfold SV
      refine hK' _ _ ⟨HYA2.out, ?_⟩
      clear hK'
      refine wpAnyH_all (rs := [5]) (by kernel_rfl) (by simp) ?_
      intro ii hii
      rw [List.mem_singleton] at hii
      subst hii
      refine wpOp_step (by rfl) ?_
      intro K' hK'
      go_simp
      obtain ⟨A3, hV⟩ : ∃ V, V = A2.alloc (.cells #[.int .u64 0, .int .u64 0, .int .u64 0, .int .u64 0] 39) := ⟨_, rfl⟩
      rw [← hV]
      have HYA3 : Hid (RB w w4.heap.size A3) := Lib.hid (by rw [hV]; exact HYA2.out.nxt ((Below.refl _ _).alloc (Nat.le_refl _) _))
      have HBA3 : Hid (Below (w.heap.size + 1) (w.alloc (.cells #[.int .u64 0, .int .u64 0, .int .u64 0, .int .u64 0] 39)) A3) := Lib.hid (by rw [hV]; exact HBA2.out.trans (((Below.refl _ _).alloc (Nat.le_refl _) _).mono (bsz HBA2.out)))
      have HGA3 : Hid (A3.heap[A2.heap.size]? = some (.cells #[.int .u64 0, .int .u64 0, .int .u64 0, .int .u64 0] 39)) := Lib.hid (by rw [hV]; exact alloc_last4 _ _)
      have hg8 : w4.heap.size + 1 + 1 + 1 < A2.heap.size := lt_blk HYA2.out.2.2.2.2.2
      have hg9 : w.heap.size + 1 ≤ w4.heap.size := HYA2.out.2.1
      clear hV
      refine hK' _ _ ⟨HYA3.out, ?_⟩
      clear hK'
      obtain ⟨⟨t0, t1, t2, t3⟩, ⟨u0, u1, u2, u3⟩, uz⟩ := blk4f HGA3.out
      refine wpAnyH_all (rs := [6]) (by kernel_rfl) (by simp) ?_
      intro ii hii
      rw [List.mem_singleton] at hii
      subst hii
      refine wpOp_step (by rfl) ?_
      intro K' hK'
      go_simp
      obtain ⟨A3s, hV⟩ : ∃ V, V = (((A3.setCell ⟨A2.heap.size, 0, none⟩ (.int .u64 (sw (orP (orP (rng 97 122) (rng 65 90)) (rng 48 57)) 0 : Nat))).setCell ⟨A2.heap.size, 1, none⟩ (.int .u64 (sw (orP (orP (rng 97 122) (rng 65 90)) (rng 48 57)) 1 : Nat))).setCell ⟨A2.heap.size, 2, none⟩ (.int .u64 (sw (orP (orP (rng 97 122) (rng 65 90)) (rng 48 57)) 2 : Nat))).setCell ⟨A2.heap.size, 3, none⟩ (.int .u64 (sw (orP (orP (rng 97 122) (rng 65 90)) (rng 48 57)) 3 : Nat)) := ⟨_, rfl⟩
      rw [← hV]
      have HYA3s : Hid (RB w w4.heap.size A3s) := Lib.hid (by rw [hV]; exact (((HYA3.out.set _ 0 _ (Or.inr hg8)).set _ 1 _ (Or.inr hg8)).set _ 2 _ (Or.inr hg8)).set _ 3 _ (Or.inr hg8))
      have HBA3s : Hid (Below (w.heap.size + 1) (w.alloc (.cells #[.int .u64 0, .int .u64 0, .int .u64 0, .int .u64 0] 39)) A3s) := Lib.hid (by rw [hV]; exact (((HBA3.out.setCell (by simp; omega) _).setCell (by simp; omega) _).setCell (by simp; omega) _).setCell (by simp; omega) _)
      have HRA3s : Hid (Row4 A3s A2.heap.size 0 (orP (orP (rng 97 122) (rng 65 90)) (rng 48 57))) := Lib.hid (by rw [hV]; exact row4_put (p := noP) (orP (orP (rng 97 122) (rng 65 90)) (rng 48 57)) (row_no t0 t1 t2 t3))
      have hgz : A2.heap.size < A3s.heap.size := by rw [hV]; simpa using uz
      clear hV t0 t1 t2 t3 u0 u1 u2 u3 uz
      refine hK' _ _ ⟨HYA3s.out, ?_⟩
      clear hK'
      refine wpAnyH_done (by kernel_rfl) ?_ _
      go_wp2_with fail
      have HYd : Hid (RB w w4.heap.size A3s.drew) := Lib.hid (HYA3s.out.nxt (Below.refl _ _).drew)
      have HBd : Hid (Below (w.heap.size + 1) (w.alloc (.cells #[.int .u64 0, .int .u64 0, .int .u64 0, .int .u64 0] 39)) A3s.drew) := Lib.hid HBA3s.out.drew
      have HRd : Hid (Row4 A3s.drew (A2.heap.size) 0 (orP (orP (rng 97 122) (rng 65 90)) (rng 48 57))) := Lib.hid HRA3s.out
      have hgd : (A2.heap.size) < A3s.drew.heap.size := hgz
      have HSd : Hid (RB w w4.heap.size A3s.drew ∧ Row4 A3s.drew (A2.heap.size) 0 (orP (orP (rng 97 122) (rng 65 90)) (rng 48 57))) := Lib.hid ⟨HYd.out, HRd.out⟩
      refine wp_region_held (S := fun X => RB w w4.heap.size X ∧ Row4 X (A2.heap.size) 0 (orP (orP (rng 97 122) (rng 65 90)) (rng 48 57))) (by kernel_rfl) ?_
      try (change wpAnyH _ _ _ _ _ _ _ _ (World.drew _))
      generalize A3s.drew = G0 at *
      refine wpAnyH_take (i := 0) (v := .agg #[.int .u64 (sw (rng 48 57) 0 : Nat), .int .u64 (sw (rng 48 57) 1 : Nat), .int .u64 (sw (rng 48 57) 2 : Nat), .int .u64 (sw (rng 48 57) 3 : Nat)]) rfl (by kernel_rfl) (by kernel_rfl) (by kernel_rfl) (fun _ _ _ h => h) (Or.inl ⟨by kernel_rfl, ?_⟩) HSd.out ?_
      · intro X hS; obtain ⟨⟨_, _, hS3, hS4, hS5, hS6⟩, _⟩ := hS; obtain ⟨⟨z0, z1, z2, z3⟩, _⟩ := blk4 hS5; clear hS3 hS4 hS5 hS6; go_simp
      try simp only [Act.put, List.setIfInBounds_toArray]
      refine wpAnyH_all (rs := [1]) (by kernel_rfl) (by simp) ?_
      intro ii hii
      rw [List.mem_singleton] at hii
      subst hii
      refine wpOp_step (by rfl) ?_
      intro K' hK'
      go_simp
      go_at_call 26
      refine (Z1 _).out.mono ?_
      rintro e G1 ⟨rfl, hbc⟩
      have HYG1 := Lib.hid (HYd.out.nxt hbc)
      have HBG1 := Lib.hid (HBd.out.trans (hbc.mono (bsz HBd.out)))
      have HRG1 := Lib.hid (row4_bel HRd.out hbc hgd)
      have hgdG1 : (A2.heap.size) < G1.heap.size := Nat.lt_of_lt_of_le hgd hbc.size
      clear hbc
      refine hK' _ _ ⟨⟨HYG1.out, HRG1.out⟩, ?_⟩
      clear hK'
      refine wpAnyH_all (rs := [2]) (by kernel_rfl) (by simp) ?_
      intro ii hii
      rw [List.mem_singleton] at hii
      subst hii
      refine wpOp_step (by rfl) ?_
      intro K' hK'
      go_simp
      go_at_call 26
      refine (Z2 _).out.mono ?_
      rintro e G2 ⟨rfl, hbc⟩
      have HYG2 := Lib.hid (HYG1.out.nxt hbc)
      have HBG2 := Lib.hid (HBG1.out.trans (hbc.mono (bsz HBG1.out)))
      have HRG2 := Lib.hid (row4_bel HRG1.out hbc hgdG1)
      have hgdG2 : (A2.heap.size) < G2.heap.size := Nat.lt_of_lt_of_le hgdG1 hbc.size
      clear hbc
      unfold SV
      refine hK' _ _ ⟨⟨HYG2.out, HRG2.out⟩, ?_⟩
      clear hK'
      refine wpAnyH_all (rs := [3]) (by kernel_rfl) (by simp) ?_
      intro ii hii
      rw [List.mem_singleton] at hii
      subst hii
      refine wpOp_step (by rfl) ?_
      intro K' hK'
      go_simp
      go_at_call 25
      refine (Z3 _).out.mono ?_
      rintro e G3 ⟨rfl, hbc⟩
      have HYG3 := Lib.hid (HYG2.out.nxt hbc)
      have HBG3 := Lib.hid (HBG2.out.trans (hbc.mono (bsz HBG2.out)))
      have HRG3 := Lib.hid (row4_bel HRG2.out hbc hgdG2)
      have hgdG3 : (A2.heap.size) < G3.heap.size := Nat.lt_of_lt_of_le hgdG2 hbc.size
      clear hbc
      unfold SV
      refine hK' _ _ ⟨⟨HYG3.out, HRG3.out⟩, ?_⟩
      clear hK'
      refine wpAnyH_all (rs := [4]) (by kernel_rfl) (by simp) ?_
      intro ii hii
      rw [List.mem_singleton] at hii
      subst hii
      refine wpOp_step (by rfl) ?_
      intro K' hK'
      go_simp
      go_at_call 25
      refine (Z4 _).out.mono ?_
      rintro e G4 ⟨rfl, hbc⟩
      have HYG4 := Lib.hid (HYG3.out.nxt hbc)
      have HBG4 := Lib.hid (HBG3.out.trans (hbc.mono (bsz HBG3.out)))
      have HRG4 := Lib.hid (row4_bel HRG3.out hbc hgdG3)
      have hgdG4 : (A2.heap.size) < G4.heap.size := Nat.lt_of_lt_of_le hgdG3 hbc.size
      clear hbc
      unfold SV
      refine hK' _ _ ⟨⟨HYG4.out, HRG4.out⟩, ?_⟩
      clear hK'
      obtain ⟨r0, r1, r2, r3, s0, s1, s2, s3, rz⟩ := res_facts HBG4.out (Nat.lt_succ_self _)
      refine wpAnyH_all (rs := [5]) (by kernel_rfl) (by simp) ?_
      intro ii hii
      rw [List.mem_singleton] at hii
      subst hii
      refine wpOp_step (by rfl) ?_
      intro K' hK'
      go_simp
      refine hK' _ _ ⟨⟨(((HYG4.out.set _ 0 _ (Or.inl rfl)).set _ 1 _ (Or.inl rfl)).set _ 2 _ (Or.inl rfl)).set _ 3 _ (Or.inl rfl), row4_far HRG4.out (by omega)⟩, ?_⟩
      clear hK'
      refine wpAnyH_all (rs := [6]) (by kernel_rfl) (by simp) ?_
      intro ii hii
      rw [List.mem_singleton] at hii
      subst hii
      refine wpOp_step (by rfl) ?_
      intro K' hK'
      go_simp
      refine hK' _ _ ⟨⟨(((HYG4.out.set _ 0 _ (Or.inl rfl)).set _ 1 _ (Or.inl rfl)).set _ 2 _ (Or.inl rfl)).set _ 3 _ (Or.inl rfl), row4_far HRG4.out (by omega)⟩, ?_⟩
      clear hK'
      refine wpAnyH_done (by kernel_rfl) ?_ _
      go_wp2
      exact bodyPost_ret (by simp [results, Tryd.results38, go_sem, r0, r1, r2, r3]; rfl) rfl ⟨rfl, res_below HBG4.out _ _ _ _⟩
    · skip
      refine wpOp_step (by rfl) ?_
      intro K' hK'
      go_simp
      obtain ⟨C2, hV⟩ : ∃ V, V = A1.alloc (.cells #[.int .u64 0, .int .u64 0, .int .u64 0, .int .u64 0] 39) := ⟨_, rfl⟩
      rw [← hV]
      have HYC2 : Hid (RB w w4.heap.size C2) := Lib.hid (by rw [hV]; exact HYA1.out.nxt ((Below.refl _ _).alloc (Nat.le_refl _) _))
      have HBC2 : Hid (Below (w.heap.size + 1) (w.alloc (.cells #[.int .u64 0, .int .u64 0, .int .u64 0, .int .u64 0] 39)) C2) := Lib.hid (by rw [hV]; exact HBA1.out.trans (((Below.refl _ _).alloc (Nat.le_refl _) _).mono (bsz HBA1.out)))
      have HGC2 : Hid (C2.heap[A1.heap.size]? = some (.cells #[.int .u64 0, .int .u64 0, .int .u64 0, .int .u64 0] 39)) := Lib.hid (by rw [hV]; exact alloc_last4 _ _)
      have hg8 : w4.heap.size + 1 + 1 + 1 < A1.heap.size := lt_blk HYA1.out.2.2.2.2.2
      have hg9 : w.heap.size + 1 ≤ w4.heap.size := HYA1.out.2.1
      clear hV
      refine hK' _ _ ⟨HYC2.out, ?_⟩
      clear hK'
      refine wpAnyH_all (rs := [4]) (by kernel_rfl) (by simp) ?_
      intro ii hii
      rw [List.mem_singleton] at hii
      subst hii
      refine wpOp_step (by rfl) ?_
      intro K' hK'
      go_simp
      go_at_call 25
      refine (Y2 _).out.mono ?_
      rintro e C3 ⟨rfl, hbc⟩
      have HYC3 := Lib.hid (HYC2.out.nxt hbc)
      have HBC3 := Lib.hid (HBC2.out.trans (hbc.mono (bsz HBC2.out)))
      have HGC3 := Lib.hid ((hbc.block _ (lt_blk HGC2.out)).trans HGC2.out)
      clear hbc
      unfold SV
      refine hK' _ _ ⟨HYC3.out, ?_⟩
      clear hK'
      obtain ⟨⟨t0, t1, t2, t3⟩, ⟨u0, u1, u2, u3⟩, uz⟩ := blk4f HGC3.out
      refine wpAnyH_all (rs := [6]) (by kernel_rfl) (by simp) ?_
      intro ii hii
      rw [List.mem_singleton] at hii
      subst hii
      refine wpOp_step (by rfl) ?_
      intro K' hK'
      go_simp
      obtain ⟨C3s, hV⟩ : ∃ V, V = (((C3.setCell ⟨A1.heap.size, 0, none⟩ (.int .u64 (sw (orP (orP (rng 97 122) (rng 65 90)) (rng 48 57)) 0 : Nat))).setCell ⟨A1.heap.size, 1, none⟩ (.int .u64 (sw (orP (orP (rng 97 122) (rng 65 90)) (rng 48 57)) 1 : Nat))).setCell ⟨A1.heap.size, 2, none⟩ (.int .u64 (sw (orP (orP (rng 97 122) (rng 65 90)) (rng 48 57)) 2 : Nat))).setCell ⟨A1.heap.size, 3, none⟩ (.int .u64 (sw (orP (orP (rng 97 122) (rng 65 90)) (rng 48 57)) 3 : Nat)) := ⟨_, rfl⟩
      rw [← hV]
      have HYC3s : Hid (RB w w4.heap.size C3s) := Lib.hid (by rw [hV]; exact (((HYC3.out.set _ 0 _ (Or.inr hg8)).set _ 1 _ (Or.inr hg8)).set _ 2 _ (Or.inr hg8)).set _ 3 _ (Or.inr hg8))
      have HBC3s : Hid (Below (w.heap.size + 1) (w.alloc (.cells #[.int .u64 0, .int .u64 0, .int .u64 0, .int .u64 0] 39)) C3s) := Lib.hid (by rw [hV]; exact (((HBC3.out.setCell (by simp; omega) _).setCell (by simp; omega) _).setCell (by simp; omega) _).setCell (by simp; omega) _)
      have HRC3s : Hid (Row4 C3s A1.heap.size 0 (orP (orP (rng 97 122) (rng 65 90)) (rng 48 57))) := Lib.hid (by rw [hV]; exact row4_put (p := noP) (orP (orP (rng 97 122) (rng 65 90)) (rng 48 57)) (row_no t0 t1 t2 t3))
      have hgz : A1.heap.size < C3s.heap.size := by rw [hV]; simpa using uz
      clear hV t0 t1 t2 t3 u0 u1 u2 u3 uz
      refine hK' _ _ ⟨HYC3s.out, ?_⟩
      clear hK'
      refine wpAnyH_done (by kernel_rfl) ?_ _
      go_wp2_with fail
      have HYd : Hid (RB w w4.heap.size C3s.drew) := Lib.hid (HYC3s.out.nxt (Below.refl _ _).drew)
      have HBd : Hid (Below (w.heap.size + 1) (w.alloc (.cells #[.int .u64 0, .int .u64 0, .int .u64 0, .int .u64 0] 39)) C3s.drew) := Lib.hid HBC3s.out.drew
      have HRd : Hid (Row4 C3s.drew (A1.heap.size) 0 (orP (orP (rng 97 122) (rng 65 90)) (rng 48 57))) := Lib.hid HRC3s.out
      have hgd : (A1.heap.size) < C3s.drew.heap.size := hgz
      have HSd : Hid (RB w w4.heap.size C3s.drew ∧ Row4 C3s.drew (A1.heap.size) 0 (orP (orP (rng 97 122) (rng 65 90)) (rng 48 57))) := Lib.hid ⟨HYd.out, HRd.out⟩
      refine wp_region_held (S := fun X => RB w w4.heap.size X ∧ Row4 X (A1.heap.size) 0 (orP (orP (rng 97 122) (rng 65 90)) (rng 48 57))) (by kernel_rfl) ?_
      try (change wpAnyH _ _ _ _ _ _ _ _ (World.drew _))
      generalize C3s.drew = G0 at *
      refine wpAnyH_take (i := 0) (v := .agg #[.int .u64 (sw (rng 48 57) 0 : Nat), .int .u64 (sw (rng 48 57) 1 : Nat), .int .u64 (sw (rng 48 57) 2 : Nat), .int .u64 (sw (rng 48 57) 3 : Nat)]) rfl (by kernel_rfl) (by kernel_rfl) (by kernel_rfl) (fun _ _ _ h => h) (Or.inl ⟨by kernel_rfl, ?_⟩) HSd.out ?_
      · intro X hS; obtain ⟨⟨_, _, hS3, hS4, hS5, hS6⟩, _⟩ := hS; obtain ⟨⟨z0, z1, z2, z3⟩, _⟩ := blk4 hS5; clear hS3 hS4 hS5 hS6; go_simp
      try simp only [Act.put, List.setIfInBounds_toArray]
      refine wpAnyH_all (rs := [1]) (by kernel_rfl) (by simp) ?_
      intro ii hii
      rw [List.mem_singleton] at hii
      subst hii
      refine wpOp_step (by rfl) ?_
      intro K' hK'
      go_simp
      go_at_call 26
      refine (Z1 _).out.mono ?_
      rintro e G1 ⟨rfl, hbc⟩
      have HYG1 := Lib.hid (HYd.out.nxt hbc)
      have HBG1 := Lib.hid (HBd.out.trans (hbc.mono (bsz HBd.out)))
      have HRG1 := Lib.hid (row4_bel HRd.out hbc hgd)
      have hgdG1 : (A1.heap.size) < G1.heap.size := Nat.lt_of_lt_of_le hgd hbc.size
      clear hbc
      refine hK' _ _ ⟨⟨HYG1.out, HRG1.out⟩, ?_⟩
      clear hK'
      refine wpAnyH_all (rs := [2]) (by kernel_rfl) (by simp) ?_
      intro ii hii
      rw [List.mem_singleton] at hii
      subst hii
      refine wpOp_step (by rfl) ?_
      intro K' hK'
      go_simp
      go_at_call 26
      refine (Z2 _).out.mono ?_
      rintro e G2 ⟨rfl, hbc⟩
      have HYG2 := Lib.hid (HYG1.out.nxt hbc)
      have HBG2 := Lib.hid (HBG1.out.trans (hbc.mono (bsz HBG1.out)))
      have HRG2 := Lib.hid (row4_bel HRG1.out hbc hgdG1)
      have hgdG2 : (A1.heap.size) < G2.heap.size := Nat.lt_of_lt_of_le hgdG1 hbc.size
      clear hbc
      unfold SV
      refine hK' _ _ ⟨⟨HYG2.out, HRG2.out⟩, ?_⟩
      clear hK'
      refine wpAnyH_all (rs := [3]) (by kernel_rfl) (by simp) ?_
      intro ii hii
      rw [List.mem_singleton] at hii
      subst hii
      refine wpOp_step (by rfl) ?_
      intro K' hK'
      go_simp
      go_at_call 25
      refine (Z3 _).out.mono ?_
      rintro e G3 ⟨rfl, hbc⟩
      have HYG3 := Lib.hid (HYG2.out.nxt hbc)
      have HBG3 := Lib.hid (HBG2.out.trans (hbc.mono (bsz HBG2.out)))
      have HRG3 := Lib.hid (row4_bel HRG2.out hbc hgdG2)
      have hgdG3 : (A1.heap.size) < G3.heap.size := Nat.lt_of_lt_of_le hgdG2 hbc.size
      clear hbc
      unfold SV
      refine hK' _ _ ⟨⟨HYG3.out, HRG3.out⟩, ?_⟩
      clear hK'
      refine wpAnyH_all (rs := [4]) (by kernel_rfl) (by simp) ?_
      intro ii hii
      rw [List.mem_singleton] at hii
      subst hii
      refine wpOp_step (by rfl) ?_
      intro K' hK'
      go_simp
      go_at_call 25
      refine (Z4 _).out.mono ?_
      rintro e G4 ⟨rfl, hbc⟩
      have HYG4 := Lib.hid (HYG3.out.nxt hbc)
      have HBG4 := Lib.hid (HBG3.out.trans (hbc.mono (bsz HBG3.out)))
      have HRG4 := Lib.hid (row4_bel HRG3.out hbc hgdG3)
      have hgdG4 : (A1.heap.size) < G4.heap.size := Nat.lt_of_lt_of_le hgdG3 hbc.size
      clear hbc
      unfold SV
      refine hK' _ _ ⟨⟨HYG4.out, HRG4.out⟩, ?_⟩
      clear hK'
      obtain ⟨r0, r1, r2, r3, s0, s1, s2, s3, rz⟩ := res_facts HBG4.out (Nat.lt_succ_self _)
      refine wpAnyH_all (rs := [5]) (by kernel_rfl) (by simp) ?_
      intro ii hii
      rw [List.mem_singleton] at hii
      subst hii
      refine wpOp_step (by rfl) ?_
      intro K' hK'
      go_simp
      refine hK' _ _ ⟨⟨(((HYG4.out.set _ 0 _ (Or.inl rfl)).set _ 1 _ (Or.inl rfl)).set _ 2 _ (Or.inl rfl)).set _ 3 _ (Or.inl rfl), row4_far HRG4.out (by omega)⟩, ?_⟩
      clear hK'
      refine wpAnyH_all (rs := [6]) (by kernel_rfl) (by simp) ?_
      intro ii hii
      rw [List.mem_singleton] at hii
      subst hii
      refine wpOp_step (by rfl) ?_
      intro K' hK'
      go_simp
      refine hK' _ _ ⟨⟨(((HYG4.out.set _ 0 _ (Or.inl rfl)).set _ 1 _ (Or.inl rfl)).set _ 2 _ (Or.inl rfl)).set _ 3 _ (Or.inl rfl), row4_far HRG4.out (by omega)⟩, ?_⟩
      clear hK'
      refine wpAnyH_done (by kernel_rfl) ?_ _
      go_wp2
      exact bodyPost_ret (by simp [results, Tryd.results38, go_sem, r0, r1, r2, r3]; rfl) rfl ⟨rfl, res_below HBG4.out _ _ _ _⟩
  · skip
    refine wpOp_step (by rfl) ?_
    intro K' hK'
    go_simp
    obtain ⟨D1, hV⟩ : ∃ V, V = X0.alloc (.cells #[.int .u64 0, .int .u64 0, .int .u64 0, .int .u64 0] 39) := ⟨_, rfl⟩
    rw [← hV]
    have HYD1 : Hid (RB w w4.heap.size D1) := Lib.hid (by rw [hV]; exact HYX0.out.nxt ((Below.refl _ _).alloc (Nat.le_refl _) _))
    have HBD1 : Hid (Below (w.heap.size + 1) (w.alloc (.cells #[.int .u64 0, .int .u64 0, .int .u64 0, .int .u64 0] 39)) D1) := Lib.hid (by rw [hV]; exact HBX0.out.trans (((Below.refl _ _).alloc (Nat.le_refl _) _).mono (bsz HBX0.out)))
    have HGD1 : Hid (D1.heap[X0.heap.size]? = some (.cells #[.int .u64 0, .int .u64 0, .int .u64 0, .int .u64 0] 39)) := Lib.hid (by rw [hV]; exact alloc_last4 _ _)
    have hg8 : w4.heap.size + 1 + 1 + 1 < X0.heap.size := lt_blk HYX0.out.2.2.2.2.2
    have hg9 : w.heap.size + 1 ≤ w4.heap.size := HYX0.out.2.1
    clear hV
    refine hK' _ _ ⟨HYD1.out, ?_⟩
    clear hK'
    refine wpAnyH_all (rs := [2]) (by kernel_rfl) (by simp) ?_
    intro ii hii
    rw [List.mem_singleton] at hii
    subst hii
    refine wpOp_step (by rfl) ?_
    intro K' hK'
    go_simp
    go_at_call 25
    refine (Y1 _).out.mono ?_
    rintro e D2 ⟨rfl, hbc⟩
    have HYD2 := Lib.hid (HYD1.out.nxt hbc)
    have HBD2 := Lib.hid (HBD1.out.trans (hbc.mono (bsz HBD1.out)))
    have HGD2 := Lib.hid ((hbc.block _ (lt_blk HGD1.out)).trans HGD1.out)
    clear hbc
    unfold SV
    refine hK' _ _ ⟨HYD2.out, ?_⟩
    clear hK'
    refine wpAnyH_all (rs := [4]) (by kernel_rfl) (by simp) ?_
    intro ii hii
    rw [List.mem_singleton] at hii
    subst hii
    refine wpOp_step (by rfl) ?_
    intro K' hK'
    go_simp
    go_at_call 25
    refine (Y2 _).out.mono ?_
    rintro e D3 ⟨rfl, hbc⟩
    have HYD3 := Lib.hid (HYD2.out.nxt hbc)
    have HBD3 := Lib.hid (HBD2.out.trans (hbc.mono (bsz HBD2.out)))
    have HGD3 := Lib.hid ((hbc.block _ (lt_blk HGD2.out)).trans HGD2.out)
    clear hbc
    unfold SV
    refine hK' _ _ ⟨HYD3.out, ?_⟩
    clear hK'
    obtain ⟨⟨t0, t1, t2, t3⟩, ⟨u0, u1, u2, u3⟩, uz⟩ := blk4f HGD3.out
    refine wpAnyH_all (rs := [6]) (by kernel_rfl) (by simp) ?_
    intro ii hii
    rw [List.mem_singleton] at hii
    subst hii
    refine wpOp_step (by rfl) ?_
    intro K' hK'
    go_simp
    obtain ⟨D3s, hV⟩ : ∃ V, V = (((D3.setCell ⟨X0.heap.size, 0, none⟩ (.int .u64 (sw (orP (orP (rng 97 122) (rng 65 90)) (rng 48 57)) 0 : Nat))).setCell ⟨X0.heap.size, 1, none⟩ (.int .u64 (sw (orP (orP (rng 97 122) (rng 65 90)) (rng 48 57)) 1 : Nat))).setCell ⟨X0.heap.size, 2, none⟩ (.int .u64 (sw (orP (orP (rng 97 122) (rng 65 90)) (rng 48 57)) 2 : Nat))).setCell ⟨X0.heap.size, 3, none⟩ (.int .u64 (sw (orP (orP (rng 97 122) (rng 65 90)) (rng 48 57)) 3 : Nat)) := ⟨_, rfl⟩
    rw [← hV]
    have HYD3s : Hid (RB w w4.heap.size D3s) := Lib.hid (by rw [hV]; exact (((HYD3.out.set _ 0 _ (Or.inr hg8)).set _ 1 _ (Or.inr hg8)).set _ 2 _ (Or.inr hg8)).set _ 3 _ (Or.inr hg8))
    have HBD3s : Hid (Below (w.heap.size + 1) (w.alloc (.cells #[.int .u64 0, .int .u64 0, .int .u64 0, .int .u64 0] 39)) D3s) := Lib.hid (by rw [hV]; exact (((HBD3.out.setCell (by simp; omega) _).setCell (by simp; omega) _).setCell (by simp; omega) _).setCell (by simp; omega) _)
    have HRD3s : Hid (Row4 D3s X0.heap.size 0 (orP (orP (rng 97 122) (rng 65 90)) (rng 48 57))) := Lib.hid (by rw [hV]; exact row4_put (p := noP) (orP (orP (rng 97 122) (rng 65 90)) (rng 48 57)) (row_no t0 t1 t2 t3))
    have hgz : X0.heap.size < D3s.heap.size := by rw [hV]; simpa using uz
    clear hV t0 t1 t2 t3 u0 u1 u2 u3 uz
    refine hK' _ _ ⟨HYD3s.out, ?_⟩
    clear hK'
    refine wpAnyH_done (by kernel_rfl) ?_ _
    go_wp2_with fail
    have HYd : Hid (RB w w4.heap.size D3s.drew) := Lib.hid (HYD3s.out.nxt (Below.refl _ _).drew)
    have HBd : Hid (Below (w.heap.size + 1) (w.alloc (.cells #[.int .u64 0, .int .u64 0, .int .u64 0, .int .u64 0] 39)) D3s.drew) := Lib.hid HBD3s.out.drew
    have HRd : Hid (Row4 D3s.drew (X0.heap.size) 0 (orP (orP (rng 97 122) (rng 65 90)) (rng 48 57))) := Lib.hid HRD3s.out
    have hgd : (X0.heap.size) < D3s.drew.heap.size := hgz
    have HSd : Hid (RB w w4.heap.size D3s.drew ∧ Row4 D3s.drew (X0.heap.size) 0 (orP (orP (rng 97 122) (rng 65 90)) (rng 48 57))) := Lib.hid ⟨HYd.out, HRd.out⟩
    refine wp_region_held (S := fun X => RB w w4.heap.size X ∧ Row4 X (X0.heap.size) 0 (orP (orP (rng 97 122) (rng 65 90)) (rng 48 57))) (by kernel_rfl) ?_
    try (change wpAnyH _ _ _ _ _ _ _ _ (World.drew _))
    generalize D3s.drew = G0 at *
    refine wpAnyH_take (i := 0) (v := .agg #[.int .u64 (sw (rng 48 57) 0 : Nat), .int .u64 (sw (rng 48 57) 1 : Nat), .int .u64 (sw (rng 48 57) 2 : Nat), .int .u64 (sw (rng 48 57) 3 : Nat)]) rfl (by kernel_rfl) (by kernel_rfl) (by kernel_rfl) (fun _ _ _ h => h) (Or.inl ⟨by kernel_rfl, ?_⟩) HSd.out ?_
    · intro X hS; obtain ⟨⟨_, _, hS3, hS4, hS5, hS6⟩, _⟩ := hS; obtain ⟨⟨z0, z1, z2, z3⟩, _⟩ := blk4 hS5; clear hS3 hS4 hS5 hS6; go_simp
    try simp only [Act.put, List.setIfInBounds_toArray]
    refine wpAnyH_all (rs := [1]) (by kernel_rfl) (by simp) ?_
    intro ii hii
    rw [List.mem_singleton] at hii
    subst hii
    refine wpOp_step (by rfl) ?_
    intro K' hK'
    go_simp
    go_at_call 26
    refine (Z1 _).out.mono ?_
    rintro e G1 ⟨rfl, hbc⟩
    have HYG1 := Lib.hid (HYd.out.nxt hbc)
    have HBG1 := Lib.hid (HBd.out.trans (hbc.mono (bsz HBd.out)))
    have HRG1 := Lib.hid (row4_bel HRd.out hbc hgd)
    have hgdG1 : (X0.heap.size) < G1.heap.size := Nat.lt_of_lt_of_le hgd hbc.size
    clear hbc
    refine hK' _ _ ⟨⟨HYG1.out, HRG1.out⟩, ?_⟩
    clear hK'
    refine wpAnyH_all (rs := [2]) (by kernel_rfl) (by simp) ?_
    intro ii hii
    rw [List.mem_singleton] at hii
    subst hii
    refine wpOp_step (by rfl) ?_
    intro K' hK'
    go_simp
    go_at_call 26
    refine (Z2 _).out.mono ?_
    rintro e G2 ⟨rfl, hbc⟩
    have HYG2 := Lib.hid (HYG1.out.nxt hbc)
    have HBG2 := Lib.hid (HBG1.out.trans (hbc.mono (bsz HBG1.out)))
    have HRG2 := Lib.hid (row4_bel HRG1.out hbc hgdG1)
    have hgdG2 : (X0.heap.size) < G2.heap.size := Nat.lt_of_lt_of_le hgdG1 hbc.size
    clear hbc
    unfold SV
    refine hK' _ _ ⟨⟨HYG2.out, HRG2.out⟩, ?_⟩
    clear hK'
    refine wpAnyH_all (rs := [3]) (by kernel_rfl) (by simp) ?_
    intro ii hii
    rw [List.mem_singleton] at hii
    subst hii
    refine wpOp_step (by rfl) ?_
    intro K' hK'
    go_simp
    go_at_call 25
    refine (Z3 _).out.mono ?_
    rintro e G3 ⟨rfl, hbc⟩
    have HYG3 := Lib.hid (HYG2.out.nxt hbc)
    have HBG3 := Lib.hid (HBG2.out.trans (hbc.mono (bsz HBG2.out)))
    have HRG3 := Lib.hid (row4_bel HRG2.out hbc hgdG2)
    have hgdG3 : (X0.heap.size) < G3.heap.size := Nat.lt_of_lt_of_le hgdG2 hbc.size
    clear hbc
    unfold SV
    refine hK' _ _ ⟨⟨HYG3.out, HRG3.out⟩, ?_⟩
    clear hK'
    refine wpAnyH_all (rs := [4]) (by kernel_rfl) (by simp) ?_
    intro ii hii
    rw [List.mem_singleton] at hii
    subst hii
    refine wpOp_step (by rfl) ?_
    intro K' hK'
    go_simp
    go_at_call 25
    refine (Z4 _).out.mono ?_
    rintro e G4 ⟨rfl, hbc⟩
    have HYG4 := Lib.hid (HYG3.out.nxt hbc)
    have HBG4 := Lib.hid (HBG3.out.trans (hbc.mono (bsz HBG3.out)))
    have HRG4 := Lib.hid (row4_bel HRG3.out hbc hgdG3)
    have hgdG4 : (X0.heap.size) < G4.heap.size := Nat.lt_of_lt_of_le hgdG3 hbc.size
    clear hbc
    unfold SV
    refine hK' _ _ ⟨⟨HYG4.out, HRG4.out⟩, ?_⟩
    clear hK'
    obtain ⟨r0, r1, r2, r3, s0, s1, s2, s3, rz⟩ := res_facts HBG4.out (Nat.lt_succ_self _)
    refine wpAnyH_all (rs := [5]) (by kernel_rfl) (by simp) ?_
    intro ii hii
    rw [List.mem_singleton] at hii
    subst hii
    refine wpOp_step (by rfl) ?_
    intro K' hK'
    go_simp
    refine hK' _ _ ⟨⟨(((HYG4.out.set _ 0 _ (Or.inl rfl)).set _ 1 _ (Or.inl rfl)).set _ 2 _ (Or.inl rfl)).set _ 3 _ (Or.inl rfl), row4_far HRG4.out (by omega)⟩, ?_⟩
    clear hK'
    refine wpAnyH_all (rs := [6]) (by kernel_rfl) (by simp) ?_
    intro ii hii
    rw [List.mem_singleton] at hii
    subst hii
    refine wpOp_step (by rfl) ?_
    intro K' hK'
    go_simp
    refine hK' _ _ ⟨⟨(((HYG4.out.set _ 0 _ (Or.inl rfl)).set _ 1 _ (Or.inl rfl)).set _ 2 _ (Or.inl rfl)).set _ 3 _ (Or.inl rfl), row4_far HRG4.out (by omega)⟩, ?_⟩
    clear hK'
    refine wpAnyH_done (by kernel_rfl) ?_ _
    go_wp2
    exact bodyPost_ret (by simp [results, Tryd.results38, go_sem, r0, r1, r2, r3]; rfl) rfl ⟨rfl, res_below HBG4.out _ _ _ _⟩
end Go.Proofs.YtoodpajbefffhaaDoor
/- The contract of the reference's Class at other (gen_refclass.py). -/
namespace Go.Proofs.YtoodpajbefffhaaDoor
open Go.RowKit

set_option maxRecDepth 100000 in
set_option maxHeartbeats 16000000 in
theorem rclass_other (nm : ByteArray) (n_alpha : (nm.toList == [97, 108, 112, 104, 97]) = false) (n_digit : (nm.toList == [100, 105, 103, 105, 116]) = false) (n_alnum : (nm.toList == [97, 108, 110, 117, 109]) = false) (n_upper : (nm.toList == [117, 112, 112, 101, 114]) = false) (n_lower : (nm.toList == [108, 111, 119, 101, 114]) = false) (n_space : (nm.toList == [115, 112, 97, 99, 101]) = false) (n_blank : (nm.toList == [98, 108, 97, 110, 107]) = false) (n_print : (nm.toList == [112, 114, 105, 110, 116]) = false) (n_graph : (nm.toList == [103, 114, 97, 112, 104]) = false) (n_punct : (nm.toList == [112, 117, 110, 99, 116]) = false) (n_cntrl : (nm.toList == [99, 110, 116, 114, 108]) = false) (n_xdigit : (nm.toList == [120, 100, 105, 103, 105, 116]) = false) (w : World) :
    Calls Tryd.prog 38 #[.string nm] w fun e w' => e = .returned (.tuple #[SV noP, .bool false]) ∧ Below w.heap.size w w' := by
  have X1 : ∀ w, Hid (Calls Tryd.prog 26 #[.int .u8 97, .int .u8 122] w fun e w' => e = .returned (SV (rng 97 122)) ∧ Below w.heap.size w w') := fun w => Lib.hid (rrange_any 97 122 (by omega) (by omega) w)
  have X2 : ∀ w, Hid (Calls Tryd.prog 26 #[.int .u8 65, .int .u8 90] w fun e w' => e = .returned (SV (rng 65 90)) ∧ Below w.heap.size w w') := fun w => Lib.hid (rrange_any 65 90 (by omega) (by omega) w)
  have X3 : ∀ w, Hid (Calls Tryd.prog 26 #[.int .u8 48, .int .u8 57] w fun e w' => e = .returned (SV (rng 48 57)) ∧ Below w.heap.size w w') := fun w => Lib.hid (rrange_any 48 57 (by omega) (by omega) w)
  have X4 : ∀ w, Hid (Calls Tryd.prog 26 #[.int .u8 33, .int .u8 126] w fun e w' => e = .returned (SV (rng 33 126)) ∧ Below w.heap.size w w') := fun w => Lib.hid (rrange_any 33 126 (by omega) (by omega) w)
  have Y1 : ∀ w, Hid (Calls Tryd.prog 25 #[.agg #[.int .u64 (sw (rng 97 122) 0 : Nat), .int .u64 (sw (rng 97 122) 1 : Nat), .int .u64 (sw (rng 97 122) 2 : Nat), .int .u64 (sw (rng 97 122) 3 : Nat)], .agg #[.int .u64 (sw (rng 65 90) 0 : Nat), .int .u64 (sw (rng 65 90) 1 : Nat), .int .u64 (sw (rng 65 90) 2 : Nat), .int .u64 (sw (rng 65 90) 3 : Nat)]] w fun e w' => e = .returned (SV (orP (rng 97 122) (rng 65 90))) ∧ Below w.heap.size w w') := fun w => Lib.hid (ror_any (rng 97 122) (rng 65 90) w)
  have Y2 : ∀ w, Hid (Calls Tryd.prog 25 #[.agg #[.int .u64 (sw (orP (rng 97 122) (rng 65 90)) 0 : Nat), .int .u64 (sw (orP (rng 97 122) (rng 65 90)) 1 : Nat), .int .u64 (sw (orP (rng 97 122) (rng 65 90)) 2 : Nat), .int .u64 (sw (orP (rng 97 122) (rng 65 90)) 3 : Nat)], .agg #[.int .u64 (sw (rng 48 57) 0 : Nat), .int .u64 (sw (rng 48 57) 1 : Nat), .int .u64 (sw (rng 48 57) 2 : Nat), .int .u64 (sw (rng 48 57) 3 : Nat)]] w fun e w' => e = .returned (SV (orP (orP (rng 97 122) (rng 65 90)) (rng 48 57))) ∧ Below w.heap.size w w') := fun w => Lib.hid (ror_any (orP (rng 97 122) (rng 65 90)) (rng 48 57) w)
  go_enter Tryd.func38, Tryd.ntmps38
  go_wp2_with fail
  have HB0 : Hid (Below (w.heap.size + 1) (w.alloc (.cells #[.int .u64 0, .int .u64 0, .int .u64 0, .int .u64 0] 39)) (w.alloc (.cells #[.int .u64 0, .int .u64 0, .int .u64 0, .int .u64 0] 39))) := Lib.hid (Below.refl _ _)
  refine (X1 _).out.mono ?_
  rintro e w1 ⟨rfl, hb1⟩
  have HB1 := Lib.hid (HB0.out.trans (hb1.mono (bsz HB0.out)))
  clear hb1
  go_wp2_with fail
  refine (X2 _).out.mono ?_
  rintro e w2 ⟨rfl, hb2⟩
  have HB2 := Lib.hid (HB1.out.trans (hb2.mono (bsz HB1.out)))
  clear hb2
  go_wp2_with fail
  refine (X3 _).out.mono ?_
  rintro e w3 ⟨rfl, hb3⟩
  have HB3 := Lib.hid (HB2.out.trans (hb3.mono (bsz HB2.out)))
  clear hb3
  go_wp2_with fail
  refine (X4 _).out.mono ?_
  rintro e w4 ⟨rfl, hb4⟩
  have HB4 := Lib.hid (HB3.out.trans (hb4.mono (bsz HB3.out)))
  clear hb4
  unfold SV
  go_wp2_with fail
  have HKS := RB.start w w4 HB4.out
  have HBW := Lib.hid ((((HB4.out.alloc (bsz HB4.out) (.cells #[.int .u64 (sw (rng 97 122) 0 : Nat), .int .u64 (sw (rng 97 122) 1 : Nat), .int .u64 (sw (rng 97 122) 2 : Nat), .int .u64 (sw (rng 97 122) 3 : Nat)] 39)).alloc (by have := HB4.out.size; simp at this; simp; omega) (.cells #[.int .u64 (sw (rng 65 90) 0 : Nat), .int .u64 (sw (rng 65 90) 1 : Nat), .int .u64 (sw (rng 65 90) 2 : Nat), .int .u64 (sw (rng 65 90) 3 : Nat)] 39)).alloc (by have := HB4.out.size; simp at this; simp; omega) (.cells #[.int .u64 (sw (rng 48 57) 0 : Nat), .int .u64 (sw (rng 48 57) 1 : Nat), .int .u64 (sw (rng 48 57) 2 : Nat), .int .u64 (sw (rng 48 57) 3 : Nat)] 39)).alloc (by have := HB4.out.size; simp at this; simp; omega) (.cells #[.int .u64 (sw (rng 33 126) 0 : Nat), .int .u64 (sw (rng 33 126) 1 : Nat), .int .u64 (sw (rng 33 126) 2 : Nat), .int .u64 (sw (rng 33 126) 3 : Nat)] 39))
  obtain ⟨V, hV⟩ : ∃ V, V = (((w4.alloc (.cells #[.int .u64 (sw (rng 97 122) 0 : Nat), .int .u64 (sw (rng 97 122) 1 : Nat), .int .u64 (sw (rng 97 122) 2 : Nat), .int .u64 (sw (rng 97 122) 3 : Nat)] 39)).alloc (.cells #[.int .u64 (sw (rng 65 90) 0 : Nat), .int .u64 (sw (rng 65 90) 1 : Nat), .int .u64 (sw (rng 65 90) 2 : Nat), .int .u64 (sw (rng 65 90) 3 : Nat)] 39)).alloc (.cells #[.int .u64 (sw (rng 48 57) 0 : Nat), .int .u64 (sw (rng 48 57) 1 : Nat), .int .u64 (sw (rng 48 57) 2 : Nat), .int .u64 (sw (rng 48 57) 3 : Nat)] 39)).alloc (.cells #[.int .u64 (sw (rng 33 126) 0 : Nat), .int .u64 (sw (rng 33 126) 1 : Nat), .int .u64 (sw (rng 33 126) 2 : Nat), .int .u64 (sw (rng 33 126) 3 : Nat)] 39) := ⟨_, rfl⟩
  rw [← hV] at HKS HBW ⊢
  clear hV
  have HY0 : Hid (RB w w4.heap.size V.drew) := Lib.hid (HKS.nxt (Below.refl _ _).drew)
  have HBV : Hid (Below (w.heap.size + 1) (w.alloc (.cells #[.int .u64 0, .int .u64 0, .int .u64 0, .int .u64 0] 39)) V.drew) := Lib.hid HBW.out.drew
  clear HKS HBW
  refine wp_region_held (S := fun X => RB w w4.heap.size X) (by kernel_rfl) ?_
  try (change wpAnyH _ _ _ _ _ _ _ _ (World.drew _))
  generalize V.drew = X0 at *
  refine wpAnyH_take (i := 0) (v := .agg #[.int .u64 (sw (rng 97 122) 0 : Nat), .int .u64 (sw (rng 97 122) 1 : Nat), .int .u64 (sw (rng 97 122) 2 : Nat), .int .u64 (sw (rng 97 122) 3 : Nat)]) rfl (by kernel_rfl) (by kernel_rfl) (by kernel_rfl) (fun _ _ _ h => h) (Or.inl ⟨by kernel_rfl, ?_⟩) HY0.out ?_
  · intro X hS; obtain ⟨_, _, hS3, hS4, hS5, hS6⟩ := hS; obtain ⟨⟨z0, z1, z2, z3⟩, _⟩ := blk4 hS3; clear hS3 hS4 hS5 hS6; go_simp
  try simp only [Act.put, List.setIfInBounds_toArray]
  refine wpAnyH_take (i := 1) (v := .agg #[.int .u64 (sw (rng 65 90) 0 : Nat), .int .u64 (sw (rng 65 90) 1 : Nat), .int .u64 (sw (rng 65 90) 2 : Nat), .int .u64 (sw (rng 65 90) 3 : Nat)]) rfl (by kernel_rfl) (by kernel_rfl) (by kernel_rfl) (fun _ _ _ h => h) (Or.inl ⟨by kernel_rfl, ?_⟩) HY0.out ?_
  · intro X hS; obtain ⟨_, _, hS3, hS4, hS5, hS6⟩ := hS; obtain ⟨⟨z0, z1, z2, z3⟩, _⟩ := blk4 hS4; clear hS3 hS4 hS5 hS6; go_simp
  try simp only [Act.put]
  refine wpAnyH_take (i := 3) (v := .agg #[.int .u64 (sw (rng 48 57) 0 : Nat), .int .u64 (sw (rng 48 57) 1 : Nat), .int .u64 (sw (rng 48 57) 2 : Nat), .int .u64 (sw (rng 48 57) 3 : Nat)]) rfl (by kernel_rfl) (by kernel_rfl) (by kernel_rfl) (fun _ _ _ h => h) (Or.inl ⟨by kernel_rfl, ?_⟩) HY0.out ?_
  · intro X hS; obtain ⟨_, _, hS3, hS4, hS5, hS6⟩ := hS; obtain ⟨⟨z0, z1, z2, z3⟩, _⟩ := blk4 hS5; clear hS3 hS4 hS5 hS6; go_simp
  try simp only [Act.put]
  have HYX0 := HY0
  have HBX0 := HBV
  refine wpAnyH_all (rs := [2, 5]) (by kernel_rfl) (by simp) ?_
  intro ii hii
  simp only [List.mem_cons, List.not_mem_nil, or_false] at hii
  rcases hii with rfl | rfl
  · skip
    refine wpOp_step (by rfl) ?_
    intro K' hK'
    go_simp
    go_at_call 25
    refine (Y1 _).out.mono ?_
    rintro e A1 ⟨rfl, hbc⟩
    have HYA1 := Lib.hid (HYX0.out.nxt hbc)
    have HBA1 := Lib.hid (HBX0.out.trans (hbc.mono (bsz HBX0.out)))
    clear hbc
    unfold SV
    refine hK' _ _ ⟨HYA1.out, ?_⟩
    clear hK'
    refine wpAnyH_all (rs := [4, 5]) (by kernel_rfl) (by simp) ?_
    intro ii hii
    simp only [List.mem_cons, List.not_mem_nil, or_false] at hii
    rcases hii with rfl | rfl
    · skip
      refine wpOp_step (by rfl) ?_
      intro K' hK'
      go_simp
      go_at_call 25
      refine (Y2 _).out.mono ?_
      rintro e A2 ⟨rfl, hbc⟩
      have HYA2 := Lib.hid (HYA1.out.nxt hbc)
      have HBA2 := Lib.hid (HBA1.out.trans (hbc.mono (bsz HBA1.out)))
      clear hbc
      unfold SV
      refine hK' _ _ ⟨HYA2.out, ?_⟩
      clear hK'
      refine wpAnyH_all (rs := [5]) (by kernel_rfl) (by simp) ?_
      intro ii hii
      rw [List.mem_singleton] at hii
      subst hii
      refine wpOp_step (by rfl) ?_
      intro K' hK'
      go_simp
      obtain ⟨A3, hV⟩ : ∃ V, V = A2.alloc (.cells #[.int .u64 0, .int .u64 0, .int .u64 0, .int .u64 0] 39) := ⟨_, rfl⟩
      rw [← hV]
      have HYA3 : Hid (RB w w4.heap.size A3) := Lib.hid (by rw [hV]; exact HYA2.out.nxt ((Below.refl _ _).alloc (Nat.le_refl _) _))
      have HBA3 : Hid (Below (w.heap.size + 1) (w.alloc (.cells #[.int .u64 0, .int .u64 0, .int .u64 0, .int .u64 0] 39)) A3) := Lib.hid (by rw [hV]; exact HBA2.out.trans (((Below.refl _ _).alloc (Nat.le_refl _) _).mono (bsz HBA2.out)))
      have HGA3 : Hid (A3.heap[A2.heap.size]? = some (.cells #[.int .u64 0, .int .u64 0, .int .u64 0, .int .u64 0] 39)) := Lib.hid (by rw [hV]; exact alloc_last4 _ _)
      have hg8 : w4.heap.size + 1 + 1 + 1 < A2.heap.size := lt_blk HYA2.out.2.2.2.2.2
      have hg9 : w.heap.size + 1 ≤ w4.heap.size := HYA2.out.2.1
      clear hV
      refine hK' _ _ ⟨HYA3.out, ?_⟩
      clear hK'
      obtain ⟨⟨t0, t1, t2, t3⟩, ⟨u0, u1, u2, u3⟩, uz⟩ := blk4f HGA3.out
      refine wpAnyH_all (rs := [6]) (by kernel_rfl) (by simp) ?_
      intro ii hii
      rw [List.mem_singleton] at hii
      subst hii
      refine wpOp_step (by rfl) ?_
      intro K' hK'
      go_simp
      obtain ⟨A3s, hV⟩ : ∃ V, V = (((A3.setCell ⟨A2.heap.size, 0, none⟩ (.int .u64 (sw (orP (orP (rng 97 122) (rng 65 90)) (rng 48 57)) 0 : Nat))).setCell ⟨A2.heap.size, 1, none⟩ (.int .u64 (sw (orP (orP (rng 97 122) (rng 65 90)) (rng 48 57)) 1 : Nat))).setCell ⟨A2.heap.size, 2, none⟩ (.int .u64 (sw (orP (orP (rng 97 122) (rng 65 90)) (rng 48 57)) 2 : Nat))).setCell ⟨A2.heap.size, 3, none⟩ (.int .u64 (sw (orP (orP (rng 97 122) (rng 65 90)) (rng 48 57)) 3 : Nat)) := ⟨_, rfl⟩
      rw [← hV]
      have HYA3s : Hid (RB w w4.heap.size A3s) := Lib.hid (by rw [hV]; exact (((HYA3.out.set _ 0 _ (Or.inr hg8)).set _ 1 _ (Or.inr hg8)).set _ 2 _ (Or.inr hg8)).set _ 3 _ (Or.inr hg8))
      have HBA3s : Hid (Below (w.heap.size + 1) (w.alloc (.cells #[.int .u64 0, .int .u64 0, .int .u64 0, .int .u64 0] 39)) A3s) := Lib.hid (by rw [hV]; exact (((HBA3.out.setCell (by simp; omega) _).setCell (by simp; omega) _).setCell (by simp; omega) _).setCell (by simp; omega) _)
      have HRA3s : Hid (Row4 A3s A2.heap.size 0 (orP (orP (rng 97 122) (rng 65 90)) (rng 48 57))) := Lib.hid (by rw [hV]; exact row4_put (p := noP) (orP (orP (rng 97 122) (rng 65 90)) (rng 48 57)) (row_no t0 t1 t2 t3))
      have hgz : A2.heap.size < A3s.heap.size := by rw [hV]; simpa using uz
      clear hV t0 t1 t2 t3 u0 u1 u2 u3 uz
      refine hK' _ _ ⟨HYA3s.out, ?_⟩
      clear hK'
      refine wpAnyH_done (by kernel_rfl) ?_ _
      obtain ⟨r0, r1, r2, r3, s0, s1, s2, s3, rz⟩ := res_facts HBA3s.out (Nat.lt_succ_self _)
      go_wp2
      exact bodyPost_ret (by simp [results, Tryd.results38, go_sem, r0, r1, r2, r3]; rfl) rfl ⟨by rw [SV_of item_no'.1.symm item_no'.2.1.symm item_no'.2.2.1.symm item_no'.2.2.2.symm], res_below HBA3s.out _ _ _ _⟩
    · skip
      refine wpOp_step (by rfl) ?_
      intro K' hK'
      go_simp
      obtain ⟨C2, hV⟩ : ∃ V, V = A1.alloc (.cells #[.int .u64 0, .int .u64 0, .int .u64 0, .int .u64 0] 39) := ⟨_, rfl⟩
      rw [← hV]
      have HYC2 : Hid (RB w w4.heap.size C2) := Lib.hid (by rw [hV]; exact HYA1.out.nxt ((Below.refl _ _).alloc (Nat.le_refl _) _))
      have HBC2 : Hid (Below (w.heap.size + 1) (w.alloc (.cells #[.int .u64 0, .int .u64 0, .int .u64 0, .int .u64 0] 39)) C2) := Lib.hid (by rw [hV]; exact HBA1.out.trans (((Below.refl _ _).alloc (Nat.le_refl _) _).mono (bsz HBA1.out)))
      have HGC2 : Hid (C2.heap[A1.heap.size]? = some (.cells #[.int .u64 0, .int .u64 0, .int .u64 0, .int .u64 0] 39)) := Lib.hid (by rw [hV]; exact alloc_last4 _ _)
      have hg8 : w4.heap.size + 1 + 1 + 1 < A1.heap.size := lt_blk HYA1.out.2.2.2.2.2
      have hg9 : w.heap.size + 1 ≤ w4.heap.size := HYA1.out.2.1
      clear hV
      refine hK' _ _ ⟨HYC2.out, ?_⟩
      clear hK'
      refine wpAnyH_all (rs := [4]) (by kernel_rfl) (by simp) ?_
      intro ii hii
      rw [List.mem_singleton] at hii
      subst hii
      refine wpOp_step (by rfl) ?_
      intro K' hK'
      go_simp
      go_at_call 25
      refine (Y2 _).out.mono ?_
      rintro e C3 ⟨rfl, hbc⟩
      have HYC3 := Lib.hid (HYC2.out.nxt hbc)
      have HBC3 := Lib.hid (HBC2.out.trans (hbc.mono (bsz HBC2.out)))
      have HGC3 := Lib.hid ((hbc.block _ (lt_blk HGC2.out)).trans HGC2.out)
      clear hbc
      unfold SV
      refine hK' _ _ ⟨HYC3.out, ?_⟩
      clear hK'
      obtain ⟨⟨t0, t1, t2, t3⟩, ⟨u0, u1, u2, u3⟩, uz⟩ := blk4f HGC3.out
      refine wpAnyH_all (rs := [6]) (by kernel_rfl) (by simp) ?_
      intro ii hii
      rw [List.mem_singleton] at hii
      subst hii
      refine wpOp_step (by rfl) ?_
      intro K' hK'
      go_simp
      obtain ⟨C3s, hV⟩ : ∃ V, V = (((C3.setCell ⟨A1.heap.size, 0, none⟩ (.int .u64 (sw (orP (orP (rng 97 122) (rng 65 90)) (rng 48 57)) 0 : Nat))).setCell ⟨A1.heap.size, 1, none⟩ (.int .u64 (sw (orP (orP (rng 97 122) (rng 65 90)) (rng 48 57)) 1 : Nat))).setCell ⟨A1.heap.size, 2, none⟩ (.int .u64 (sw (orP (orP (rng 97 122) (rng 65 90)) (rng 48 57)) 2 : Nat))).setCell ⟨A1.heap.size, 3, none⟩ (.int .u64 (sw (orP (orP (rng 97 122) (rng 65 90)) (rng 48 57)) 3 : Nat)) := ⟨_, rfl⟩
      rw [← hV]
      have HYC3s : Hid (RB w w4.heap.size C3s) := Lib.hid (by rw [hV]; exact (((HYC3.out.set _ 0 _ (Or.inr hg8)).set _ 1 _ (Or.inr hg8)).set _ 2 _ (Or.inr hg8)).set _ 3 _ (Or.inr hg8))
      have HBC3s : Hid (Below (w.heap.size + 1) (w.alloc (.cells #[.int .u64 0, .int .u64 0, .int .u64 0, .int .u64 0] 39)) C3s) := Lib.hid (by rw [hV]; exact (((HBC3.out.setCell (by simp; omega) _).setCell (by simp; omega) _).setCell (by simp; omega) _).setCell (by simp; omega) _)
      have HRC3s : Hid (Row4 C3s A1.heap.size 0 (orP (orP (rng 97 122) (rng 65 90)) (rng 48 57))) := Lib.hid (by rw [hV]; exact row4_put (p := noP) (orP (orP (rng 97 122) (rng 65 90)) (rng 48 57)) (row_no t0 t1 t2 t3))
      have hgz : A1.heap.size < C3s.heap.size := by rw [hV]; simpa using uz
      clear hV t0 t1 t2 t3 u0 u1 u2 u3 uz
      refine hK' _ _ ⟨HYC3s.out, ?_⟩
      clear hK'
      refine wpAnyH_done (by kernel_rfl) ?_ _
      obtain ⟨r0, r1, r2, r3, s0, s1, s2, s3, rz⟩ := res_facts HBC3s.out (Nat.lt_succ_self _)
      go_wp2
      exact bodyPost_ret (by simp [results, Tryd.results38, go_sem, r0, r1, r2, r3]; rfl) rfl ⟨by rw [SV_of item_no'.1.symm item_no'.2.1.symm item_no'.2.2.1.symm item_no'.2.2.2.symm], res_below HBC3s.out _ _ _ _⟩
  · skip
    refine wpOp_step (by rfl) ?_
    intro K' hK'
    go_simp
    obtain ⟨D1, hV⟩ : ∃ V, V = X0.alloc (.cells #[.int .u64 0, .int .u64 0, .int .u64 0, .int .u64 0] 39) := ⟨_, rfl⟩
    rw [← hV]
    have HYD1 : Hid (RB w w4.heap.size D1) := Lib.hid (by rw [hV]; exact HYX0.out.nxt ((Below.refl _ _).alloc (Nat.le_refl _) _))
    have HBD1 : Hid (Below (w.heap.size + 1) (w.alloc (.cells #[.int .u64 0, .int .u64 0, .int .u64 0, .int .u64 0] 39)) D1) := Lib.hid (by rw [hV]; exact HBX0.out.trans (((Below.refl _ _).alloc (Nat.le_refl _) _).mono (bsz HBX0.out)))
    have HGD1 : Hid (D1.heap[X0.heap.size]? = some (.cells #[.int .u64 0, .int .u64 0, .int .u64 0, .int .u64 0] 39)) := Lib.hid (by rw [hV]; exact alloc_last4 _ _)
    have hg8 : w4.heap.size + 1 + 1 + 1 < X0.heap.size := lt_blk HYX0.out.2.2.2.2.2
    have hg9 : w.heap.size + 1 ≤ w4.heap.size := HYX0.out.2.1
    clear hV
    refine hK' _ _ ⟨HYD1.out, ?_⟩
    clear hK'
    refine wpAnyH_all (rs := [2]) (by kernel_rfl) (by simp) ?_
    intro ii hii
    rw [List.mem_singleton] at hii
    subst hii
    refine wpOp_step (by rfl) ?_
    intro K' hK'
    go_simp
    go_at_call 25
    refine (Y1 _).out.mono ?_
    rintro e D2 ⟨rfl, hbc⟩
    have HYD2 := Lib.hid (HYD1.out.nxt hbc)
    have HBD2 := Lib.hid (HBD1.out.trans (hbc.mono (bsz HBD1.out)))
    have HGD2 := Lib.hid ((hbc.block _ (lt_blk HGD1.out)).trans HGD1.out)
    clear hbc
    unfold SV
    refine hK' _ _ ⟨HYD2.out, ?_⟩
    clear hK'
    refine wpAnyH_all (rs := [4]) (by kernel_rfl) (by simp) ?_
    intro ii hii
    rw [List.mem_singleton] at hii
    subst hii
    refine wpOp_step (by rfl) ?_
    intro K' hK'
    go_simp
    go_at_call 25
    refine (Y2 _).out.mono ?_
    rintro e D3 ⟨rfl, hbc⟩
    have HYD3 := Lib.hid (HYD2.out.nxt hbc)
    have HBD3 := Lib.hid (HBD2.out.trans (hbc.mono (bsz HBD2.out)))
    have HGD3 := Lib.hid ((hbc.block _ (lt_blk HGD2.out)).trans HGD2.out)
    clear hbc
    unfold SV
    refine hK' _ _ ⟨HYD3.out, ?_⟩
    clear hK'
    obtain ⟨⟨t0, t1, t2, t3⟩, ⟨u0, u1, u2, u3⟩, uz⟩ := blk4f HGD3.out
    refine wpAnyH_all (rs := [6]) (by kernel_rfl) (by simp) ?_
    intro ii hii
    rw [List.mem_singleton] at hii
    subst hii
    refine wpOp_step (by rfl) ?_
    intro K' hK'
    go_simp
    obtain ⟨D3s, hV⟩ : ∃ V, V = (((D3.setCell ⟨X0.heap.size, 0, none⟩ (.int .u64 (sw (orP (orP (rng 97 122) (rng 65 90)) (rng 48 57)) 0 : Nat))).setCell ⟨X0.heap.size, 1, none⟩ (.int .u64 (sw (orP (orP (rng 97 122) (rng 65 90)) (rng 48 57)) 1 : Nat))).setCell ⟨X0.heap.size, 2, none⟩ (.int .u64 (sw (orP (orP (rng 97 122) (rng 65 90)) (rng 48 57)) 2 : Nat))).setCell ⟨X0.heap.size, 3, none⟩ (.int .u64 (sw (orP (orP (rng 97 122) (rng 65 90)) (rng 48 57)) 3 : Nat)) := ⟨_, rfl⟩
    rw [← hV]
    have HYD3s : Hid (RB w w4.heap.size D3s) := Lib.hid (by rw [hV]; exact (((HYD3.out.set _ 0 _ (Or.inr hg8)).set _ 1 _ (Or.inr hg8)).set _ 2 _ (Or.inr hg8)).set _ 3 _ (Or.inr hg8))
    have HBD3s : Hid (Below (w.heap.size + 1) (w.alloc (.cells #[.int .u64 0, .int .u64 0, .int .u64 0, .int .u64 0] 39)) D3s) := Lib.hid (by rw [hV]; exact (((HBD3.out.setCell (by simp; omega) _).setCell (by simp; omega) _).setCell (by simp; omega) _).setCell (by simp; omega) _)
    have HRD3s : Hid (Row4 D3s X0.heap.size 0 (orP (orP (rng 97 122) (rng 65 90)) (rng 48 57))) := Lib.hid (by rw [hV]; exact row4_put (p := noP) (orP (orP (rng 97 122) (rng 65 90)) (rng 48 57)) (row_no t0 t1 t2 t3))
    have hgz : X0.heap.size < D3s.heap.size := by rw [hV]; simpa using uz
    clear hV t0 t1 t2 t3 u0 u1 u2 u3 uz
    refine hK' _ _ ⟨HYD3s.out, ?_⟩
    clear hK'
    refine wpAnyH_done (by kernel_rfl) ?_ _
    obtain ⟨r0, r1, r2, r3, s0, s1, s2, s3, rz⟩ := res_facts HBD3s.out (Nat.lt_succ_self _)
    go_wp2
    exact bodyPost_ret (by simp [results, Tryd.results38, go_sem, r0, r1, r2, r3]; rfl) rfl ⟨by rw [SV_of item_no'.1.symm item_no'.2.1.symm item_no'.2.2.1.symm item_no'.2.2.2.symm], res_below HBD3s.out _ _ _ _⟩
end Go.Proofs.YtoodpajbefffhaaDoor
