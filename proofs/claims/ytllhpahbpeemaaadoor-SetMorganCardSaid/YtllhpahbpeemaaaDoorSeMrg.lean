/- SetMorgan's walk (gen_morgan.py). -/
import Derived.Test.YtllhpahbpeemaaaDoorSeMor
namespace Go.Proofs.YtllhpahbpeemaaaDoor
open Go.RowKit

set_option maxRecDepth 100000 in
set_option maxHeartbeats 16000000 in
theorem morgan_any (p q : Nat → Bool) (w : World) (hT : TZ w) :
    Calls Tryd.prog 7 #[SV p, SV q] w fun e w' => e = .returned (.bool true) ∧ Below w.heap.size w w' := by
  have HT := Lib.hid hT
  clear hT
  have N1 : ∀ w, Hid (Calls Tryd.prog 16 #[.agg #[.int .u64 (sw p 0 : Nat), .int .u64 (sw p 1 : Nat), .int .u64 (sw p 2 : Nat), .int .u64 (sw p 3 : Nat)]] w fun e w' => e = .returned (SV (notP p)) ∧ Below w.heap.size w w') := fun w => Lib.hid (not_any p w)
  have N2 : ∀ w, Hid (Calls Tryd.prog 16 #[.agg #[.int .u64 (sw q 0 : Nat), .int .u64 (sw q 1 : Nat), .int .u64 (sw q 2 : Nat), .int .u64 (sw q 3 : Nat)]] w fun e w' => e = .returned (SV (notP q)) ∧ Below w.heap.size w w') := fun w => Lib.hid (not_any q w)
  have N3 : ∀ w, Hid (Calls Tryd.prog 16 #[.agg #[.int .u64 (sw (orP (notP p) (notP q)) 0 : Nat), .int .u64 (sw (orP (notP p) (notP q)) 1 : Nat), .int .u64 (sw (orP (notP p) (notP q)) 2 : Nat), .int .u64 (sw (orP (notP p) (notP q)) 3 : Nat)]] w fun e w' => e = .returned (SV (notP (orP (notP p) (notP q)))) ∧ Below w.heap.size w w') := fun w => Lib.hid (not_any (orP (notP p) (notP q)) w)
  have U1 : Hid (∀ (w : World) (b : Nat), Row4 w b 0 (notP p) → Row4 w b 4 (notP q) → b < w.heap.size → Calls Tryd.prog 18 #[.slice (some ⟨b, 0, none⟩) 2 2] w fun e w' => e = .returned (SV (orP (notP p) (notP q))) ∧ Below w.heap.size w w') := Lib.hid fun w b h1 h2 h3 => union2_any _ _ b 2 w h1 h2 h3
  unfold SV
  go_enter Tryd.func7, Tryd.ntmps7
  go_upto_region 1 with fail
  go_cut [5] (fun s5 wx => ∃ g : Nat, s5 = .pointer (some ⟨g, 0, none⟩) ∧ K3 w w.heap.size (w.heap.size + 1) g p q (notP (orP (notP p) (notP q))) wx)
  case first =>
    have HYX0 : Hid (MB w p q ((w.alloc (.cells #[.int .u64 (sw p 0 : Nat), .int .u64 (sw p 1 : Nat), .int .u64 (sw p 2 : Nat), .int .u64 (sw p 3 : Nat)] 24)).alloc (.cells #[.int .u64 (sw q 0 : Nat), .int .u64 (sw q 1 : Nat), .int .u64 (sw q 2 : Nat), .int .u64 (sw q 3 : Nat)] 24)).drew) := Lib.hid ((MB.start w p q).nxt (Below.refl _ _).drew)
    refine wp_region_held (S := fun X => MB w p q X) (by kernel_rfl) ?_
    try (change wpAnyH _ _ _ _ _ _ _ _ (World.drew _))
    generalize ((w.alloc (.cells #[.int .u64 (sw p 0 : Nat), .int .u64 (sw p 1 : Nat), .int .u64 (sw p 2 : Nat), .int .u64 (sw p 3 : Nat)] 24)).alloc (.cells #[.int .u64 (sw q 0 : Nat), .int .u64 (sw q 1 : Nat), .int .u64 (sw q 2 : Nat), .int .u64 (sw q 3 : Nat)] 24)).drew = X0 at *
    refine wpAnyH_take (i := 0) (v := .agg #[.int .u64 (sw p 0 : Nat), .int .u64 (sw p 1 : Nat), .int .u64 (sw p 2 : Nat), .int .u64 (sw p 3 : Nat)]) rfl (by kernel_rfl) (by kernel_rfl) (by kernel_rfl) (fun _ _ _ h => h) (Or.inl ⟨by kernel_rfl, ?_⟩) HYX0.out ?_
    · intro X hS; obtain ⟨_, hS1, hS2⟩ := hS; obtain ⟨⟨z0, z1, z2, z3⟩, _⟩ := blkM hS1; clear hS1 hS2; go_simp
    try simp only [Act.put, List.setIfInBounds_toArray]
    refine wpAnyH_take (i := 2) (v := .agg #[.int .u64 (sw q 0 : Nat), .int .u64 (sw q 1 : Nat), .int .u64 (sw q 2 : Nat), .int .u64 (sw q 3 : Nat)]) rfl (by kernel_rfl) (by kernel_rfl) (by kernel_rfl) (fun _ _ _ h => h) (Or.inl ⟨by kernel_rfl, ?_⟩) HYX0.out ?_
    · intro X hS; obtain ⟨_, hS1, hS2⟩ := hS; obtain ⟨⟨z0, z1, z2, z3⟩, _⟩ := blkM hS2; clear hS1 hS2; go_simp
    try simp only [Act.put]
    refine wpAnyH_all (rs := [1, 7]) (by kernel_rfl) (by simp) ?_
    intro ii hii
    simp only [List.mem_cons, List.not_mem_nil, or_false] at hii
    rcases hii with rfl | rfl
    · skip
      refine wpOp_step (by rfl) ?_
      intro K' hK'
      go_simp
      go_at_call 16
      refine ((N1 _).out).mono ?_
      rintro e Y1 ⟨rfl, hbc⟩
      have HYY1 := Lib.hid (HYX0.out.nxt hbc)
      clear hbc
      unfold SV
      refine hK' _ _ ⟨HYY1.out, ?_⟩
      clear hK'
      refine wpAnyH_all (rs := [3, 7]) (by kernel_rfl) (by simp) ?_
      intro ii hii
      simp only [List.mem_cons, List.not_mem_nil, or_false] at hii
      rcases hii with rfl | rfl
      · skip
        refine wpOp_step (by rfl) ?_
        intro K' hK'
        go_simp
        go_at_call 16
        refine ((N2 _).out).mono ?_
        rintro e Y2 ⟨rfl, hbc⟩
        have HYY2 := Lib.hid (HYY1.out.nxt hbc)
        clear hbc
        unfold SV
        refine hK' _ _ ⟨HYY2.out, ?_⟩
        clear hK'
        refine wpAnyH_all (rs := [4, 7]) (by kernel_rfl) (by simp) ?_
        intro ii hii
        simp only [List.mem_cons, List.not_mem_nil, or_false] at hii
        rcases hii with rfl | rfl
        · skip
          refine wpOp_step (by rfl) ?_
          intro K' hK'
          go_simp
          obtain ⟨Y3, hV⟩ : ∃ V, V = Y2.alloc (.cells #[.int .u64 (sw (notP p) 0 : Nat), .int .u64 (sw (notP p) 1 : Nat), .int .u64 (sw (notP p) 2 : Nat), .int .u64 (sw (notP p) 3 : Nat), .int .u64 (sw (notP q) 0 : Nat), .int .u64 (sw (notP q) 1 : Nat), .int .u64 (sw (notP q) 2 : Nat), .int .u64 (sw (notP q) 3 : Nat)] 24) := ⟨_, rfl⟩
          rw [← hV]
          have HL : Below Y2.heap.size Y2 Y3 := by rw [hV]; exact (Below.refl _ _).alloc (Nat.le_refl _) _
          have R1Y3 : Hid (Row4 Y3 Y2.heap.size 0 (notP p)) := Lib.hid (by rw [hV]; exact (row4_two _ _ _ _).1)
          have R2Y3 : Hid (Row4 Y3 Y2.heap.size 4 (notP q)) := Lib.hid (by rw [hV]; exact (row4_two _ _ _ _).2)
          have RZY3 : Y2.heap.size < Y3.heap.size := by rw [hV]; simp
          have HYY3 := Lib.hid (HYY2.out.nxt HL)
          clear hV HL
          refine hK' _ _ ⟨HYY3.out, ?_⟩
          clear hK'
          refine wpAnyH_all (rs := [5, 7]) (by kernel_rfl) (by simp) ?_
          intro ii hii
          simp only [List.mem_cons, List.not_mem_nil, or_false] at hii
          rcases hii with rfl | rfl
          · skip
            refine wpOp_step (by rfl) ?_
            intro K' hK'
            go_simp
            go_at_call 18
            refine (U1.out _ _ R1Y3.out R2Y3.out RZY3).mono ?_
            rintro e Y4 ⟨rfl, hbc⟩
            have HYY4 := Lib.hid (HYY3.out.nxt hbc)
            have R1Y4 := Lib.hid (row4_keep R1Y3.out hbc RZY3)
            have R2Y4 := Lib.hid (row4_keep R2Y3.out hbc RZY3)
            have RZY4 := Nat.lt_of_lt_of_le RZY3 hbc.size
            clear hbc
            unfold SV
            refine hK' _ _ ⟨HYY4.out, ?_⟩
            clear hK'
            refine wpAnyH_all (rs := [6, 7]) (by kernel_rfl) (by simp) ?_
            intro ii hii
            simp only [List.mem_cons, List.not_mem_nil, or_false] at hii
            rcases hii with rfl | rfl
            · skip
              refine wpOp_step (by rfl) ?_
              intro K' hK'
              go_simp
              go_at_call 16
              refine ((N3 _).out).mono ?_
              rintro e Y5 ⟨rfl, hbc⟩
              have HYY5 := Lib.hid (HYY4.out.nxt hbc)
              clear hbc
              unfold SV
              refine hK' _ _ ⟨HYY5.out, ?_⟩
              clear hK'
              refine wpAnyH_all (rs := [7]) (by kernel_rfl) (by simp) ?_
              intro ii hii
              rw [List.mem_singleton] at hii
              subst hii
              refine wpOp_step (by rfl) ?_
              intro K' hK'
              go_simp
              obtain ⟨Y6, hV⟩ : ∃ V, V = Y5.alloc (.cells #[.int .u64 0, .int .u64 0, .int .u64 0, .int .u64 0] 24) := ⟨_, rfl⟩
              rw [← hV]
              have HL : Below Y5.heap.size Y5 Y6 := by rw [hV]; exact (Below.refl _ _).alloc (Nat.le_refl _) _
              have HGY6 : Hid (Y6.heap[Y5.heap.size]? = some (.cells #[.int .u64 0, .int .u64 0, .int .u64 0, .int .u64 0] 24)) := Lib.hid (by rw [hV]; exact alloc_last _ _)
              have hg8 : w.heap.size + 1 < Y5.heap.size := (blkM HYY5.out.2.2).2.2
              have HYY6 := Lib.hid (HYY5.out.nxt HL)
              clear hV HL
              refine hK' _ _ ⟨HYY6.out, ?_⟩
              clear hK'
              refine wpAnyH_all (rs := [8]) (by kernel_rfl) (by simp) ?_
              intro ii hii
              rw [List.mem_singleton] at hii
              subst hii
              refine wpOp_step (by rfl) ?_
              intro K' hK'
              go_simp
              obtain ⟨⟨t0, t1, t2, t3⟩, ⟨u0, u1, u2, u3⟩, uz⟩ := blkM HGY6.out
              go_simp
              obtain ⟨Ys, hV⟩ : ∃ V, V = (((Y6.setCell ⟨Y5.heap.size, 0, none⟩ (.int .u64 (sw (notP (orP (notP p) (notP q))) 0 : Nat))).setCell ⟨Y5.heap.size, 1, none⟩ (.int .u64 (sw (notP (orP (notP p) (notP q))) 1 : Nat))).setCell ⟨Y5.heap.size, 2, none⟩ (.int .u64 (sw (notP (orP (notP p) (notP q))) 2 : Nat))).setCell ⟨Y5.heap.size, 3, none⟩ (.int .u64 (sw (notP (orP (notP p) (notP q))) 3 : Nat)) := ⟨_, rfl⟩
              rw [← hV]
              have HYs : MB w p q Ys := by rw [hV]; exact (((HYY6.out.set _ 0 _ hg8).set _ 1 _ hg8).set _ 2 _ hg8).set _ 3 _ hg8
              have HRs : Row4 Ys (Y5.heap.size) 0 (notP (orP (notP p) (notP q))) := by rw [hV]; exact row4_put (p := noP) (notP (orP (notP p) (notP q))) (row_noM HGY6.out)
              have hgz : Y5.heap.size < Ys.heap.size := by rw [hV]; simpa using uz
              clear hV t0 t1 t2 t3 u0 u1 u2 u3 uz
              refine hK' _ _ ⟨HYs, ?_⟩
              clear hK'
              refine wpAnyH_done (by kernel_rfl) ?_ _
              have HK3 : Hid (K3 w w.heap.size (w.heap.size + 1) (Y5.heap.size) p q (notP (orP (notP p) (notP q))) Ys) := Lib.hid (k3_of HYs HRs hgz)
              clear HYs HRs hgz
              go_wp2_with fail
              go_meet
              exact ⟨_, rfl, HK3.out⟩
            · skip
              refine wpOp_step (by rfl) ?_
              intro K' hK'
              go_simp
              obtain ⟨Y7, hV⟩ : ∃ V, V = Y4.alloc (.cells #[.int .u64 0, .int .u64 0, .int .u64 0, .int .u64 0] 24) := ⟨_, rfl⟩
              rw [← hV]
              have HL : Below Y4.heap.size Y4 Y7 := by rw [hV]; exact (Below.refl _ _).alloc (Nat.le_refl _) _
              have HGY7 : Hid (Y7.heap[Y4.heap.size]? = some (.cells #[.int .u64 0, .int .u64 0, .int .u64 0, .int .u64 0] 24)) := Lib.hid (by rw [hV]; exact alloc_last _ _)
              have hg8 : w.heap.size + 1 < Y4.heap.size := (blkM HYY4.out.2.2).2.2
              have HYY7 := Lib.hid (HYY4.out.nxt HL)
              clear hV HL
              refine hK' _ _ ⟨HYY7.out, ?_⟩
              clear hK'
              refine wpAnyH_all (rs := [6]) (by kernel_rfl) (by simp) ?_
              intro ii hii
              rw [List.mem_singleton] at hii
              subst hii
              refine wpOp_step (by rfl) ?_
              intro K' hK'
              go_simp
              go_at_call 16
              refine ((N3 _).out).mono ?_
              rintro e Y8 ⟨rfl, hbc⟩
              have HYY8 := Lib.hid (HYY7.out.nxt hbc)
              have HGY8 := Lib.hid ((hbc.block _ (blkM HGY7.out).2.2).trans HGY7.out)
              clear hbc
              unfold SV
              refine hK' _ _ ⟨HYY8.out, ?_⟩
              clear hK'
              refine wpAnyH_all (rs := [8]) (by kernel_rfl) (by simp) ?_
              intro ii hii
              rw [List.mem_singleton] at hii
              subst hii
              refine wpOp_step (by rfl) ?_
              intro K' hK'
              go_simp
              obtain ⟨⟨t0, t1, t2, t3⟩, ⟨u0, u1, u2, u3⟩, uz⟩ := blkM HGY8.out
              go_simp
              obtain ⟨Ys, hV⟩ : ∃ V, V = (((Y8.setCell ⟨Y4.heap.size, 0, none⟩ (.int .u64 (sw (notP (orP (notP p) (notP q))) 0 : Nat))).setCell ⟨Y4.heap.size, 1, none⟩ (.int .u64 (sw (notP (orP (notP p) (notP q))) 1 : Nat))).setCell ⟨Y4.heap.size, 2, none⟩ (.int .u64 (sw (notP (orP (notP p) (notP q))) 2 : Nat))).setCell ⟨Y4.heap.size, 3, none⟩ (.int .u64 (sw (notP (orP (notP p) (notP q))) 3 : Nat)) := ⟨_, rfl⟩
              rw [← hV]
              have HYs : MB w p q Ys := by rw [hV]; exact (((HYY8.out.set _ 0 _ hg8).set _ 1 _ hg8).set _ 2 _ hg8).set _ 3 _ hg8
              have HRs : Row4 Ys (Y4.heap.size) 0 (notP (orP (notP p) (notP q))) := by rw [hV]; exact row4_put (p := noP) (notP (orP (notP p) (notP q))) (row_noM HGY8.out)
              have hgz : Y4.heap.size < Ys.heap.size := by rw [hV]; simpa using uz
              clear hV t0 t1 t2 t3 u0 u1 u2 u3 uz
              refine hK' _ _ ⟨HYs, ?_⟩
              clear hK'
              refine wpAnyH_done (by kernel_rfl) ?_ _
              have HK3 : Hid (K3 w w.heap.size (w.heap.size + 1) (Y4.heap.size) p q (notP (orP (notP p) (notP q))) Ys) := Lib.hid (k3_of HYs HRs hgz)
              clear HYs HRs hgz
              go_wp2_with fail
              go_meet
              exact ⟨_, rfl, HK3.out⟩
          · skip
            refine wpOp_step (by rfl) ?_
            intro K' hK'
            go_simp
            obtain ⟨Y9, hV⟩ : ∃ V, V = Y3.alloc (.cells #[.int .u64 0, .int .u64 0, .int .u64 0, .int .u64 0] 24) := ⟨_, rfl⟩
            rw [← hV]
            have HL : Below Y3.heap.size Y3 Y9 := by rw [hV]; exact (Below.refl _ _).alloc (Nat.le_refl _) _
            have HGY9 : Hid (Y9.heap[Y3.heap.size]? = some (.cells #[.int .u64 0, .int .u64 0, .int .u64 0, .int .u64 0] 24)) := Lib.hid (by rw [hV]; exact alloc_last _ _)
            have hg8 : w.heap.size + 1 < Y3.heap.size := (blkM HYY3.out.2.2).2.2
            have HYY9 := Lib.hid (HYY3.out.nxt HL)
            have R1Y9 := Lib.hid (row4_keep R1Y3.out HL RZY3)
            have R2Y9 := Lib.hid (row4_keep R2Y3.out HL RZY3)
            have RZY9 := Nat.lt_of_lt_of_le RZY3 HL.size
            clear hV HL
            refine hK' _ _ ⟨HYY9.out, ?_⟩
            clear hK'
            refine wpAnyH_all (rs := [5]) (by kernel_rfl) (by simp) ?_
            intro ii hii
            rw [List.mem_singleton] at hii
            subst hii
            refine wpOp_step (by rfl) ?_
            intro K' hK'
            go_simp
            go_at_call 18
            refine (U1.out _ _ R1Y9.out R2Y9.out RZY9).mono ?_
            rintro e Y10 ⟨rfl, hbc⟩
            have HYY10 := Lib.hid (HYY9.out.nxt hbc)
            have HGY10 := Lib.hid ((hbc.block _ (blkM HGY9.out).2.2).trans HGY9.out)
            have R1Y10 := Lib.hid (row4_keep R1Y9.out hbc RZY9)
            have R2Y10 := Lib.hid (row4_keep R2Y9.out hbc RZY9)
            have RZY10 := Nat.lt_of_lt_of_le RZY9 hbc.size
            clear hbc
            unfold SV
            refine hK' _ _ ⟨HYY10.out, ?_⟩
            clear hK'
            refine wpAnyH_all (rs := [6]) (by kernel_rfl) (by simp) ?_
            intro ii hii
            rw [List.mem_singleton] at hii
            subst hii
            refine wpOp_step (by rfl) ?_
            intro K' hK'
            go_simp
            go_at_call 16
            refine ((N3 _).out).mono ?_
            rintro e Y11 ⟨rfl, hbc⟩
            have HYY11 := Lib.hid (HYY10.out.nxt hbc)
            have HGY11 := Lib.hid ((hbc.block _ (blkM HGY10.out).2.2).trans HGY10.out)
            clear hbc
            unfold SV
            refine hK' _ _ ⟨HYY11.out, ?_⟩
            clear hK'
            refine wpAnyH_all (rs := [8]) (by kernel_rfl) (by simp) ?_
            intro ii hii
            rw [List.mem_singleton] at hii
            subst hii
            refine wpOp_step (by rfl) ?_
            intro K' hK'
            go_simp
            obtain ⟨⟨t0, t1, t2, t3⟩, ⟨u0, u1, u2, u3⟩, uz⟩ := blkM HGY11.out
            go_simp
            obtain ⟨Ys, hV⟩ : ∃ V, V = (((Y11.setCell ⟨Y3.heap.size, 0, none⟩ (.int .u64 (sw (notP (orP (notP p) (notP q))) 0 : Nat))).setCell ⟨Y3.heap.size, 1, none⟩ (.int .u64 (sw (notP (orP (notP p) (notP q))) 1 : Nat))).setCell ⟨Y3.heap.size, 2, none⟩ (.int .u64 (sw (notP (orP (notP p) (notP q))) 2 : Nat))).setCell ⟨Y3.heap.size, 3, none⟩ (.int .u64 (sw (notP (orP (notP p) (notP q))) 3 : Nat)) := ⟨_, rfl⟩
            rw [← hV]
            have HYs : MB w p q Ys := by rw [hV]; exact (((HYY11.out.set _ 0 _ hg8).set _ 1 _ hg8).set _ 2 _ hg8).set _ 3 _ hg8
            have HRs : Row4 Ys (Y3.heap.size) 0 (notP (orP (notP p) (notP q))) := by rw [hV]; exact row4_put (p := noP) (notP (orP (notP p) (notP q))) (row_noM HGY11.out)
            have hgz : Y3.heap.size < Ys.heap.size := by rw [hV]; simpa using uz
            clear hV t0 t1 t2 t3 u0 u1 u2 u3 uz
            refine hK' _ _ ⟨HYs, ?_⟩
            clear hK'
            refine wpAnyH_done (by kernel_rfl) ?_ _
            have HK3 : Hid (K3 w w.heap.size (w.heap.size + 1) (Y3.heap.size) p q (notP (orP (notP p) (notP q))) Ys) := Lib.hid (k3_of HYs HRs hgz)
            clear HYs HRs hgz
            go_wp2_with fail
            go_meet
            exact ⟨_, rfl, HK3.out⟩
        · skip
          refine wpOp_step (by rfl) ?_
          intro K' hK'
          go_simp
          obtain ⟨Y12, hV⟩ : ∃ V, V = Y2.alloc (.cells #[.int .u64 0, .int .u64 0, .int .u64 0, .int .u64 0] 24) := ⟨_, rfl⟩
          rw [← hV]
          have HL : Below Y2.heap.size Y2 Y12 := by rw [hV]; exact (Below.refl _ _).alloc (Nat.le_refl _) _
          have HGY12 : Hid (Y12.heap[Y2.heap.size]? = some (.cells #[.int .u64 0, .int .u64 0, .int .u64 0, .int .u64 0] 24)) := Lib.hid (by rw [hV]; exact alloc_last _ _)
          have hg8 : w.heap.size + 1 < Y2.heap.size := (blkM HYY2.out.2.2).2.2
          have HYY12 := Lib.hid (HYY2.out.nxt HL)
          clear hV HL
          refine hK' _ _ ⟨HYY12.out, ?_⟩
          clear hK'
          refine wpAnyH_all (rs := [4]) (by kernel_rfl) (by simp) ?_
          intro ii hii
          rw [List.mem_singleton] at hii
          subst hii
          refine wpOp_step (by rfl) ?_
          intro K' hK'
          go_simp
          obtain ⟨Y13, hV⟩ : ∃ V, V = Y12.alloc (.cells #[.int .u64 (sw (notP p) 0 : Nat), .int .u64 (sw (notP p) 1 : Nat), .int .u64 (sw (notP p) 2 : Nat), .int .u64 (sw (notP p) 3 : Nat), .int .u64 (sw (notP q) 0 : Nat), .int .u64 (sw (notP q) 1 : Nat), .int .u64 (sw (notP q) 2 : Nat), .int .u64 (sw (notP q) 3 : Nat)] 24) := ⟨_, rfl⟩
          rw [← hV]
          have HL : Below Y12.heap.size Y12 Y13 := by rw [hV]; exact (Below.refl _ _).alloc (Nat.le_refl _) _
          have R1Y13 : Hid (Row4 Y13 Y12.heap.size 0 (notP p)) := Lib.hid (by rw [hV]; exact (row4_two _ _ _ _).1)
          have R2Y13 : Hid (Row4 Y13 Y12.heap.size 4 (notP q)) := Lib.hid (by rw [hV]; exact (row4_two _ _ _ _).2)
          have RZY13 : Y12.heap.size < Y13.heap.size := by rw [hV]; simp
          have HYY13 := Lib.hid (HYY12.out.nxt HL)
          have HGY13 := Lib.hid ((HL.block _ (blkM HGY12.out).2.2).trans HGY12.out)
          clear hV HL
          refine hK' _ _ ⟨HYY13.out, ?_⟩
          clear hK'
          refine wpAnyH_all (rs := [5]) (by kernel_rfl) (by simp) ?_
          intro ii hii
          rw [List.mem_singleton] at hii
          subst hii
          refine wpOp_step (by rfl) ?_
          intro K' hK'
          go_simp
          go_at_call 18
          refine (U1.out _ _ R1Y13.out R2Y13.out RZY13).mono ?_
          rintro e Y14 ⟨rfl, hbc⟩
          have HYY14 := Lib.hid (HYY13.out.nxt hbc)
          have HGY14 := Lib.hid ((hbc.block _ (blkM HGY13.out).2.2).trans HGY13.out)
          have R1Y14 := Lib.hid (row4_keep R1Y13.out hbc RZY13)
          have R2Y14 := Lib.hid (row4_keep R2Y13.out hbc RZY13)
          have RZY14 := Nat.lt_of_lt_of_le RZY13 hbc.size
          clear hbc
          unfold SV
          refine hK' _ _ ⟨HYY14.out, ?_⟩
          clear hK'
          refine wpAnyH_all (rs := [6]) (by kernel_rfl) (by simp) ?_
          intro ii hii
          rw [List.mem_singleton] at hii
          subst hii
          refine wpOp_step (by rfl) ?_
          intro K' hK'
          go_simp
          go_at_call 16
          refine ((N3 _).out).mono ?_
          rintro e Y15 ⟨rfl, hbc⟩
          have HYY15 := Lib.hid (HYY14.out.nxt hbc)
          have HGY15 := Lib.hid ((hbc.block _ (blkM HGY14.out).2.2).trans HGY14.out)
          clear hbc
          unfold SV
          refine hK' _ _ ⟨HYY15.out, ?_⟩
          clear hK'
          refine wpAnyH_all (rs := [8]) (by kernel_rfl) (by simp) ?_
          intro ii hii
          rw [List.mem_singleton] at hii
          subst hii
          refine wpOp_step (by rfl) ?_
          intro K' hK'
          go_simp
          obtain ⟨⟨t0, t1, t2, t3⟩, ⟨u0, u1, u2, u3⟩, uz⟩ := blkM HGY15.out
          go_simp
          obtain ⟨Ys, hV⟩ : ∃ V, V = (((Y15.setCell ⟨Y2.heap.size, 0, none⟩ (.int .u64 (sw (notP (orP (notP p) (notP q))) 0 : Nat))).setCell ⟨Y2.heap.size, 1, none⟩ (.int .u64 (sw (notP (orP (notP p) (notP q))) 1 : Nat))).setCell ⟨Y2.heap.size, 2, none⟩ (.int .u64 (sw (notP (orP (notP p) (notP q))) 2 : Nat))).setCell ⟨Y2.heap.size, 3, none⟩ (.int .u64 (sw (notP (orP (notP p) (notP q))) 3 : Nat)) := ⟨_, rfl⟩
          rw [← hV]
          have HYs : MB w p q Ys := by rw [hV]; exact (((HYY15.out.set _ 0 _ hg8).set _ 1 _ hg8).set _ 2 _ hg8).set _ 3 _ hg8
          have HRs : Row4 Ys (Y2.heap.size) 0 (notP (orP (notP p) (notP q))) := by rw [hV]; exact row4_put (p := noP) (notP (orP (notP p) (notP q))) (row_noM HGY15.out)
          have hgz : Y2.heap.size < Ys.heap.size := by rw [hV]; simpa using uz
          clear hV t0 t1 t2 t3 u0 u1 u2 u3 uz
          refine hK' _ _ ⟨HYs, ?_⟩
          clear hK'
          refine wpAnyH_done (by kernel_rfl) ?_ _
          have HK3 : Hid (K3 w w.heap.size (w.heap.size + 1) (Y2.heap.size) p q (notP (orP (notP p) (notP q))) Ys) := Lib.hid (k3_of HYs HRs hgz)
          clear HYs HRs hgz
          go_wp2_with fail
          go_meet
          exact ⟨_, rfl, HK3.out⟩
      · skip
        refine wpOp_step (by rfl) ?_
        intro K' hK'
        go_simp
        obtain ⟨Y16, hV⟩ : ∃ V, V = Y1.alloc (.cells #[.int .u64 0, .int .u64 0, .int .u64 0, .int .u64 0] 24) := ⟨_, rfl⟩
        rw [← hV]
        have HL : Below Y1.heap.size Y1 Y16 := by rw [hV]; exact (Below.refl _ _).alloc (Nat.le_refl _) _
        have HGY16 : Hid (Y16.heap[Y1.heap.size]? = some (.cells #[.int .u64 0, .int .u64 0, .int .u64 0, .int .u64 0] 24)) := Lib.hid (by rw [hV]; exact alloc_last _ _)
        have hg8 : w.heap.size + 1 < Y1.heap.size := (blkM HYY1.out.2.2).2.2
        have HYY16 := Lib.hid (HYY1.out.nxt HL)
        clear hV HL
        refine hK' _ _ ⟨HYY16.out, ?_⟩
        clear hK'
        refine wpAnyH_all (rs := [3]) (by kernel_rfl) (by simp) ?_
        intro ii hii
        rw [List.mem_singleton] at hii
        subst hii
        refine wpOp_step (by rfl) ?_
        intro K' hK'
        go_simp
        go_at_call 16
        refine ((N2 _).out).mono ?_
        rintro e Y17 ⟨rfl, hbc⟩
        have HYY17 := Lib.hid (HYY16.out.nxt hbc)
        have HGY17 := Lib.hid ((hbc.block _ (blkM HGY16.out).2.2).trans HGY16.out)
        clear hbc
        unfold SV
        refine hK' _ _ ⟨HYY17.out, ?_⟩
        clear hK'
        refine wpAnyH_all (rs := [4]) (by kernel_rfl) (by simp) ?_
        intro ii hii
        rw [List.mem_singleton] at hii
        subst hii
        refine wpOp_step (by rfl) ?_
        intro K' hK'
        go_simp
        obtain ⟨Y18, hV⟩ : ∃ V, V = Y17.alloc (.cells #[.int .u64 (sw (notP p) 0 : Nat), .int .u64 (sw (notP p) 1 : Nat), .int .u64 (sw (notP p) 2 : Nat), .int .u64 (sw (notP p) 3 : Nat), .int .u64 (sw (notP q) 0 : Nat), .int .u64 (sw (notP q) 1 : Nat), .int .u64 (sw (notP q) 2 : Nat), .int .u64 (sw (notP q) 3 : Nat)] 24) := ⟨_, rfl⟩
        rw [← hV]
        have HL : Below Y17.heap.size Y17 Y18 := by rw [hV]; exact (Below.refl _ _).alloc (Nat.le_refl _) _
        have R1Y18 : Hid (Row4 Y18 Y17.heap.size 0 (notP p)) := Lib.hid (by rw [hV]; exact (row4_two _ _ _ _).1)
        have R2Y18 : Hid (Row4 Y18 Y17.heap.size 4 (notP q)) := Lib.hid (by rw [hV]; exact (row4_two _ _ _ _).2)
        have RZY18 : Y17.heap.size < Y18.heap.size := by rw [hV]; simp
        have HYY18 := Lib.hid (HYY17.out.nxt HL)
        have HGY18 := Lib.hid ((HL.block _ (blkM HGY17.out).2.2).trans HGY17.out)
        clear hV HL
        refine hK' _ _ ⟨HYY18.out, ?_⟩
        clear hK'
        refine wpAnyH_all (rs := [5]) (by kernel_rfl) (by simp) ?_
        intro ii hii
        rw [List.mem_singleton] at hii
        subst hii
        refine wpOp_step (by rfl) ?_
        intro K' hK'
        go_simp
        go_at_call 18
        refine (U1.out _ _ R1Y18.out R2Y18.out RZY18).mono ?_
        rintro e Y19 ⟨rfl, hbc⟩
        have HYY19 := Lib.hid (HYY18.out.nxt hbc)
        have HGY19 := Lib.hid ((hbc.block _ (blkM HGY18.out).2.2).trans HGY18.out)
        have R1Y19 := Lib.hid (row4_keep R1Y18.out hbc RZY18)
        have R2Y19 := Lib.hid (row4_keep R2Y18.out hbc RZY18)
        have RZY19 := Nat.lt_of_lt_of_le RZY18 hbc.size
        clear hbc
        unfold SV
        refine hK' _ _ ⟨HYY19.out, ?_⟩
        clear hK'
        refine wpAnyH_all (rs := [6]) (by kernel_rfl) (by simp) ?_
        intro ii hii
        rw [List.mem_singleton] at hii
        subst hii
        refine wpOp_step (by rfl) ?_
        intro K' hK'
        go_simp
        go_at_call 16
        refine ((N3 _).out).mono ?_
        rintro e Y20 ⟨rfl, hbc⟩
        have HYY20 := Lib.hid (HYY19.out.nxt hbc)
        have HGY20 := Lib.hid ((hbc.block _ (blkM HGY19.out).2.2).trans HGY19.out)
        clear hbc
        unfold SV
        refine hK' _ _ ⟨HYY20.out, ?_⟩
        clear hK'
        refine wpAnyH_all (rs := [8]) (by kernel_rfl) (by simp) ?_
        intro ii hii
        rw [List.mem_singleton] at hii
        subst hii
        refine wpOp_step (by rfl) ?_
        intro K' hK'
        go_simp
        obtain ⟨⟨t0, t1, t2, t3⟩, ⟨u0, u1, u2, u3⟩, uz⟩ := blkM HGY20.out
        go_simp
        obtain ⟨Ys, hV⟩ : ∃ V, V = (((Y20.setCell ⟨Y1.heap.size, 0, none⟩ (.int .u64 (sw (notP (orP (notP p) (notP q))) 0 : Nat))).setCell ⟨Y1.heap.size, 1, none⟩ (.int .u64 (sw (notP (orP (notP p) (notP q))) 1 : Nat))).setCell ⟨Y1.heap.size, 2, none⟩ (.int .u64 (sw (notP (orP (notP p) (notP q))) 2 : Nat))).setCell ⟨Y1.heap.size, 3, none⟩ (.int .u64 (sw (notP (orP (notP p) (notP q))) 3 : Nat)) := ⟨_, rfl⟩
        rw [← hV]
        have HYs : MB w p q Ys := by rw [hV]; exact (((HYY20.out.set _ 0 _ hg8).set _ 1 _ hg8).set _ 2 _ hg8).set _ 3 _ hg8
        have HRs : Row4 Ys (Y1.heap.size) 0 (notP (orP (notP p) (notP q))) := by rw [hV]; exact row4_put (p := noP) (notP (orP (notP p) (notP q))) (row_noM HGY20.out)
        have hgz : Y1.heap.size < Ys.heap.size := by rw [hV]; simpa using uz
        clear hV t0 t1 t2 t3 u0 u1 u2 u3 uz
        refine hK' _ _ ⟨HYs, ?_⟩
        clear hK'
        refine wpAnyH_done (by kernel_rfl) ?_ _
        have HK3 : Hid (K3 w w.heap.size (w.heap.size + 1) (Y1.heap.size) p q (notP (orP (notP p) (notP q))) Ys) := Lib.hid (k3_of HYs HRs hgz)
        clear HYs HRs hgz
        go_wp2_with fail
        go_meet
        exact ⟨_, rfl, HK3.out⟩
    · skip
      refine wpOp_step (by rfl) ?_
      intro K' hK'
      go_simp
      obtain ⟨Y21, hV⟩ : ∃ V, V = X0.alloc (.cells #[.int .u64 0, .int .u64 0, .int .u64 0, .int .u64 0] 24) := ⟨_, rfl⟩
      rw [← hV]
      have HL : Below X0.heap.size X0 Y21 := by rw [hV]; exact (Below.refl _ _).alloc (Nat.le_refl _) _
      have HGY21 : Hid (Y21.heap[X0.heap.size]? = some (.cells #[.int .u64 0, .int .u64 0, .int .u64 0, .int .u64 0] 24)) := Lib.hid (by rw [hV]; exact alloc_last _ _)
      have hg8 : w.heap.size + 1 < X0.heap.size := (blkM HYX0.out.2.2).2.2
      have HYY21 := Lib.hid (HYX0.out.nxt HL)
      clear hV HL
      refine hK' _ _ ⟨HYY21.out, ?_⟩
      clear hK'
      refine wpAnyH_all (rs := [1]) (by kernel_rfl) (by simp) ?_
      intro ii hii
      rw [List.mem_singleton] at hii
      subst hii
      refine wpOp_step (by rfl) ?_
      intro K' hK'
      go_simp
      go_at_call 16
      refine ((N1 _).out).mono ?_
      rintro e Y22 ⟨rfl, hbc⟩
      have HYY22 := Lib.hid (HYY21.out.nxt hbc)
      have HGY22 := Lib.hid ((hbc.block _ (blkM HGY21.out).2.2).trans HGY21.out)
      clear hbc
      unfold SV
      refine hK' _ _ ⟨HYY22.out, ?_⟩
      clear hK'
      refine wpAnyH_all (rs := [3]) (by kernel_rfl) (by simp) ?_
      intro ii hii
      rw [List.mem_singleton] at hii
      subst hii
      refine wpOp_step (by rfl) ?_
      intro K' hK'
      go_simp
      go_at_call 16
      refine ((N2 _).out).mono ?_
      rintro e Y23 ⟨rfl, hbc⟩
      have HYY23 := Lib.hid (HYY22.out.nxt hbc)
      have HGY23 := Lib.hid ((hbc.block _ (blkM HGY22.out).2.2).trans HGY22.out)
      clear hbc
      unfold SV
      refine hK' _ _ ⟨HYY23.out, ?_⟩
      clear hK'
      refine wpAnyH_all (rs := [4]) (by kernel_rfl) (by simp) ?_
      intro ii hii
      rw [List.mem_singleton] at hii
      subst hii
      refine wpOp_step (by rfl) ?_
      intro K' hK'
      go_simp
      obtain ⟨Y24, hV⟩ : ∃ V, V = Y23.alloc (.cells #[.int .u64 (sw (notP p) 0 : Nat), .int .u64 (sw (notP p) 1 : Nat), .int .u64 (sw (notP p) 2 : Nat), .int .u64 (sw (notP p) 3 : Nat), .int .u64 (sw (notP q) 0 : Nat), .int .u64 (sw (notP q) 1 : Nat), .int .u64 (sw (notP q) 2 : Nat), .int .u64 (sw (notP q) 3 : Nat)] 24) := ⟨_, rfl⟩
      rw [← hV]
      have HL : Below Y23.heap.size Y23 Y24 := by rw [hV]; exact (Below.refl _ _).alloc (Nat.le_refl _) _
      have R1Y24 : Hid (Row4 Y24 Y23.heap.size 0 (notP p)) := Lib.hid (by rw [hV]; exact (row4_two _ _ _ _).1)
      have R2Y24 : Hid (Row4 Y24 Y23.heap.size 4 (notP q)) := Lib.hid (by rw [hV]; exact (row4_two _ _ _ _).2)
      have RZY24 : Y23.heap.size < Y24.heap.size := by rw [hV]; simp
      have HYY24 := Lib.hid (HYY23.out.nxt HL)
      have HGY24 := Lib.hid ((HL.block _ (blkM HGY23.out).2.2).trans HGY23.out)
      clear hV HL
      refine hK' _ _ ⟨HYY24.out, ?_⟩
      clear hK'
      refine wpAnyH_all (rs := [5]) (by kernel_rfl) (by simp) ?_
      intro ii hii
      rw [List.mem_singleton] at hii
      subst hii
      refine wpOp_step (by rfl) ?_
      intro K' hK'
      go_simp
      go_at_call 18
      refine (U1.out _ _ R1Y24.out R2Y24.out RZY24).mono ?_
      rintro e Y25 ⟨rfl, hbc⟩
      have HYY25 := Lib.hid (HYY24.out.nxt hbc)
      have HGY25 := Lib.hid ((hbc.block _ (blkM HGY24.out).2.2).trans HGY24.out)
      have R1Y25 := Lib.hid (row4_keep R1Y24.out hbc RZY24)
      have R2Y25 := Lib.hid (row4_keep R2Y24.out hbc RZY24)
      have RZY25 := Nat.lt_of_lt_of_le RZY24 hbc.size
      clear hbc
      unfold SV
      refine hK' _ _ ⟨HYY25.out, ?_⟩
      clear hK'
      refine wpAnyH_all (rs := [6]) (by kernel_rfl) (by simp) ?_
      intro ii hii
      rw [List.mem_singleton] at hii
      subst hii
      refine wpOp_step (by rfl) ?_
      intro K' hK'
      go_simp
      go_at_call 16
      refine ((N3 _).out).mono ?_
      rintro e Y26 ⟨rfl, hbc⟩
      have HYY26 := Lib.hid (HYY25.out.nxt hbc)
      have HGY26 := Lib.hid ((hbc.block _ (blkM HGY25.out).2.2).trans HGY25.out)
      clear hbc
      unfold SV
      refine hK' _ _ ⟨HYY26.out, ?_⟩
      clear hK'
      refine wpAnyH_all (rs := [8]) (by kernel_rfl) (by simp) ?_
      intro ii hii
      rw [List.mem_singleton] at hii
      subst hii
      refine wpOp_step (by rfl) ?_
      intro K' hK'
      go_simp
      obtain ⟨⟨t0, t1, t2, t3⟩, ⟨u0, u1, u2, u3⟩, uz⟩ := blkM HGY26.out
      go_simp
      obtain ⟨Ys, hV⟩ : ∃ V, V = (((Y26.setCell ⟨X0.heap.size, 0, none⟩ (.int .u64 (sw (notP (orP (notP p) (notP q))) 0 : Nat))).setCell ⟨X0.heap.size, 1, none⟩ (.int .u64 (sw (notP (orP (notP p) (notP q))) 1 : Nat))).setCell ⟨X0.heap.size, 2, none⟩ (.int .u64 (sw (notP (orP (notP p) (notP q))) 2 : Nat))).setCell ⟨X0.heap.size, 3, none⟩ (.int .u64 (sw (notP (orP (notP p) (notP q))) 3 : Nat)) := ⟨_, rfl⟩
      rw [← hV]
      have HYs : MB w p q Ys := by rw [hV]; exact (((HYY26.out.set _ 0 _ hg8).set _ 1 _ hg8).set _ 2 _ hg8).set _ 3 _ hg8
      have HRs : Row4 Ys (X0.heap.size) 0 (notP (orP (notP p) (notP q))) := by rw [hV]; exact row4_put (p := noP) (notP (orP (notP p) (notP q))) (row_noM HGY26.out)
      have hgz : X0.heap.size < Ys.heap.size := by rw [hV]; simpa using uz
      clear hV t0 t1 t2 t3 u0 u1 u2 u3 uz
      refine hK' _ _ ⟨HYs, ?_⟩
      clear hK'
      refine wpAnyH_done (by kernel_rfl) ?_ _
      have HK3 : Hid (K3 w w.heap.size (w.heap.size + 1) (X0.heap.size) p q (notP (orP (notP p) (notP q))) Ys) := Lib.hid (k3_of HYs HRs hgz)
      clear HYs HRs hgz
      go_wp2_with fail
      go_meet
      exact ⟨_, rfl, HK3.out⟩
  case rest =>
    obtain ⟨g, rfl, hk3⟩ := hcut
    have HK3 := Lib.hid hk3
    clear hk3
    go_wp2_with fail
    go_loopw [6] (fun i wr => ∃ k : Nat, k ≤ 256 ∧ i = .int .i64 k ∧ K3 w w.heap.size (w.heap.size + 1) g p q (notP (orP (notP p) (notP q))) wr) (fun i _ => 256 - (intOf i).toNat)
    case atStart => exact ⟨0, by omega, rfl, HK3.out⟩
    case round =>
      obtain ⟨k, hk, rfl, hk3⟩ := hrel
      have HK := Lib.hid hk3
      clear hk3 HK3
      by_cases hlt : k < 256
      · have hbU : ∀ w, Calls Tryd.prog 21 #[.agg #[.int .u64 (sw (notP (orP (notP p) (notP q))) 0 : Nat), .int .u64 (sw (notP (orP (notP p) (notP q))) 1 : Nat), .int .u64 (sw (notP (orP (notP p) (notP q))) 2 : Nat), .int .u64 (sw (notP (orP (notP p) (notP q))) 3 : Nat)], .int .u8 k] w fun e w' => e = .returned (.bool (p k && q k)) ∧ Below w.heap.size w w' := fun w => (has_any (notP (orP (notP p) (notP q))) k hlt w).mono fun _ _ h => ⟨by rw [h.1, mor_u], h.2⟩
        have hbp : ∀ w, Calls Tryd.prog 21 #[.agg #[.int .u64 (sw p 0 : Nat), .int .u64 (sw p 1 : Nat), .int .u64 (sw p 2 : Nat), .int .u64 (sw p 3 : Nat)], .int .u8 k] w fun e w' => e = .returned (.bool (p k)) ∧ Below w.heap.size w w' := fun w => has_any p k hlt w
        have hbq : ∀ w, Calls Tryd.prog 21 #[.agg #[.int .u64 (sw q 0 : Nat), .int .u64 (sw q 1 : Nat), .int .u64 (sw q 2 : Nat), .int .u64 (sw q 3 : Nat)], .int .u8 k] w fun e w' => e = .returned (.bool (q k)) ∧ Below w.heap.size w w' := fun w => has_any q k hlt w
        have hbo : ∀ w, Calls Tryd.prog 21 #[.agg #[.int .u64 (sw (orP p q) 0 : Nat), .int .u64 (sw (orP p q) 1 : Nat), .int .u64 (sw (orP p q) 2 : Nat), .int .u64 (sw (orP p q) 3 : Nat)], .int .u8 k] w fun e w' => e = .returned (.bool (p k || q k)) ∧ Below w.heap.size w w' := fun w => has_any (orP p q) k hlt w
        have hbn : ∀ w, Calls Tryd.prog 21 #[.agg #[.int .u64 (sw (notP p) 0 : Nat), .int .u64 (sw (notP p) 1 : Nat), .int .u64 (sw (notP p) 2 : Nat), .int .u64 (sw (notP p) 3 : Nat)], .int .u8 k] w fun e w' => e = .returned (.bool (!p k)) ∧ Below w.heap.size w w' := fun w => has_any (notP p) k hlt w
        have HU2 : Hid (∀ (w : World), Calls Tryd.prog 18 #[.slice (some ⟨w.heap.size, 0, none⟩) 2 2] (w.alloc (.cells #[.int .u64 (sw p 0 : Nat), .int .u64 (sw p 1 : Nat), .int .u64 (sw p 2 : Nat), .int .u64 (sw p 3 : Nat), .int .u64 (sw q 0 : Nat), .int .u64 (sw q 1 : Nat), .int .u64 (sw q 2 : Nat), .int .u64 (sw q 3 : Nat)] 24)) fun e w' => e = .returned (SV (orP p q)) ∧ Below w.heap.size w w') := Lib.hid fun w => unionL w p q _
        have hkI : (k : Int) < 256 := by omega
        cases hp : p k <;> cases hq : q k
        · rw [hp, hq] at hbU hbo
          rw [hp] at hbp hbn
          rw [hq] at hbq
          have HbU := Lib.hid hbU; have Hbp := Lib.hid hbp; have Hbq := Lib.hid hbq; have Hbo := Lib.hid hbo; have Hbn := Lib.hid hbn
          clear hbU hbp hbq hbo hbn hp hq
          go_wp2_with fail
          have HX : Hid (K3 w w.heap.size (w.heap.size + 1) g p q (notP (orP (notP p) (notP q))) wr.drew) := Lib.hid HK.out.drew
          refine wp_region_held (S := fun X => K3 w w.heap.size (w.heap.size + 1) g p q (notP (orP (notP p) (notP q))) X) (by kernel_rfl) ?_
          try (change wpAnyH _ _ _ _ _ _ _ _ (World.drew _))
          generalize wr.drew = X0 at *
          refine wpAnyH_take (i := 0) (oi := ⟨some 21, .load 24 (.tmp 5), _, _, _, _⟩) (v := .agg #[.int .u64 (sw (notP (orP (notP p) (notP q))) 0 : Nat), .int .u64 (sw (notP (orP (notP p) (notP q))) 1 : Nat), .int .u64 (sw (notP (orP (notP p) (notP q))) 2 : Nat), .int .u64 (sw (notP (orP (notP p) (notP q))) 3 : Nat)]) rfl (by kernel_rfl) (by kernel_rfl) (by kernel_rfl) (fun _ _ _ h => h) (Or.inl ⟨by kernel_rfl, ?_⟩) HX.out ?_
          · intro X hS; obtain ⟨_, y0, y1, y2, y3, y4, y5, y6, y7, y8, y9, y10, y11, _, _, _⟩ := hS; go_simp
          try simp only [Act.put, List.setIfInBounds_toArray, List.set_cons_zero, List.set_cons_succ]
          refine wpAnyH_take (i := 1) (oi := ⟨some 22, .move (.tmp 7), _, _, _, _⟩) (v := .int .u8 k) rfl (by kernel_rfl) (by kernel_rfl) (by kernel_rfl) (fun _ _ _ h => h) (Or.inl ⟨by kernel_rfl, ?_⟩) HX.out ?_
          · intro X _; go_simp
          try simp only [Act.put, List.setIfInBounds_toArray, List.set_cons_zero, List.set_cons_succ]
          refine wpAnyH_take (i := 3) (oi := ⟨some 24, .load 24 (.tmp 2), _, _, _, _⟩) (v := .agg #[.int .u64 (sw p 0 : Nat), .int .u64 (sw p 1 : Nat), .int .u64 (sw p 2 : Nat), .int .u64 (sw p 3 : Nat)]) rfl (by kernel_rfl) (by kernel_rfl) (by kernel_rfl) (fun _ _ _ h => h) (Or.inl ⟨by kernel_rfl, ?_⟩) HX.out ?_
          · intro X hS; obtain ⟨_, y0, y1, y2, y3, y4, y5, y6, y7, y8, y9, y10, y11, _, _, _⟩ := hS; go_simp
          try simp only [Act.put, List.setIfInBounds_toArray, List.set_cons_zero, List.set_cons_succ]
          refine wpAnyH_take (i := 4) (oi := ⟨some 25, .move (.tmp 7), _, _, _, _⟩) (v := .int .u8 k) rfl (by kernel_rfl) (by kernel_rfl) (by kernel_rfl) (fun _ _ _ h => h) (Or.inl ⟨by kernel_rfl, ?_⟩) HX.out ?_
          · intro X _; go_simp
          try simp only [Act.put, List.setIfInBounds_toArray, List.set_cons_zero, List.set_cons_succ]
          refine wpAnyH_all (rs := [2]) (by kernel_rfl) (by simp) ?_
          intro ii hii
          rw [List.mem_singleton] at hii
          subst hii
          refine wpOp_step (by rfl) ?_
          intro K' hK'
          go_simp
          go_at_call 21
          refine (HbU.out _).mono ?_
          rintro e X2 ⟨rfl, hbc⟩
          have HX : Hid (K3 w w.heap.size (w.heap.size + 1) g p q (notP (orP (notP p) (notP q))) X2) := Lib.hid (HX.out.nxt hbc)
          clear hbc
          refine hK' _ _ ⟨HX.out, ?_⟩
          clear hK'
          refine wpAnyH_all (rs := [5]) (by kernel_rfl) (by simp) ?_
          intro ii hii
          rw [List.mem_singleton] at hii
          subst hii
          refine wpOp_step (by rfl) ?_
          intro K' hK'
          go_simp
          go_at_call 21
          refine (Hbp.out _).mono ?_
          rintro e X5 ⟨rfl, hbc⟩
          have HX : Hid (K3 w w.heap.size (w.heap.size + 1) g p q (notP (orP (notP p) (notP q))) X5) := Lib.hid (HX.out.nxt hbc)
          clear hbc
          refine hK' _ _ ⟨HX.out, ?_⟩
          clear hK'
          refine wpAnyH_take (i := 6) (oi := ⟨some 27, .move (.tmp 26), _, _, _, _⟩) (v := .bool false) rfl (by kernel_rfl) (by kernel_rfl) (by kernel_rfl) (fun _ _ _ h => h) (Or.inl ⟨by kernel_rfl, ?_⟩) HX.out ?_
          · intro X _; go_simp
          try simp only [Act.put, List.setIfInBounds_toArray, List.set_cons_zero, List.set_cons_succ]
          refine wpAnyH_take (i := 7) (oi := ⟨some 28, .load 24 (.tmp 3), _, _, _, _⟩) (v := undef) rfl (by kernel_rfl) (by kernel_rfl) (by kernel_rfl) (fun _ _ _ h => h) (Or.inr ⟨by kernel_rfl, rfl⟩) HX.out ?_
          try simp only [Act.put, List.setIfInBounds_toArray, List.set_cons_zero, List.set_cons_succ]
          refine wpAnyH_take (i := 8) (oi := ⟨some 29, .move (.tmp 7), _, _, _, _⟩) (v := undef) rfl (by kernel_rfl) (by kernel_rfl) (by kernel_rfl) (fun _ _ _ h => h) (Or.inr ⟨by kernel_rfl, rfl⟩) HX.out ?_
          try simp only [Act.put, List.setIfInBounds_toArray, List.set_cons_zero, List.set_cons_succ]
          refine wpAnyH_take (i := 9) (oi := ⟨some 30, _, _, _, _, _⟩) (v := undef) rfl (by kernel_rfl) (by kernel_rfl) (by kernel_rfl) (fun _ _ _ h => h) (Or.inr ⟨by kernel_rfl, rfl⟩) HX.out ?_
          try simp only [Act.put, List.setIfInBounds_toArray, List.set_cons_zero, List.set_cons_succ]
          refine wpAnyH_take (i := 10) (oi := ⟨some 31, .pick (.tmp 27) (.tmp 30) (.const (.bool false)), _, _, _, _⟩) (v := .bool false) rfl (by kernel_rfl) (by kernel_rfl) (by kernel_rfl) (fun _ _ _ h => h) (Or.inl ⟨by kernel_rfl, ?_⟩) HX.out ?_
          · intro X _; go_simp
          try simp only [Act.put, List.setIfInBounds_toArray, List.set_cons_zero, List.set_cons_succ]
          refine wpAnyH_take (i := 11) (oi := ⟨some 32, .binOp .neq 4 (.tmp 23) (.tmp 31) 4, _, _, _, _⟩) (v := .bool false) rfl (by kernel_rfl) (by kernel_rfl) (by kernel_rfl) (fun _ _ _ h => h) (Or.inl ⟨by kernel_rfl, ?_⟩) HX.out ?_
          · intro X _; go_simp
          try simp only [Act.put, List.setIfInBounds_toArray, List.set_cons_zero, List.set_cons_succ]
          refine wpAnyH_take (i := 12) (oi := ⟨some 33, .move (.tmp 32), _, _, _, _⟩) (v := .bool false) rfl (by kernel_rfl) (by kernel_rfl) (by kernel_rfl) (fun _ _ _ h => h) (Or.inl ⟨by kernel_rfl, ?_⟩) HX.out ?_
          · intro X _; go_simp
          try simp only [Act.put, List.setIfInBounds_toArray, List.set_cons_zero, List.set_cons_succ]
          refine wpAnyH_take (i := 13) (oi := ⟨some 34, .load 24 (.tmp 2), _, _, _, _⟩) (v := .agg #[.int .u64 (sw p 0 : Nat), .int .u64 (sw p 1 : Nat), .int .u64 (sw p 2 : Nat), .int .u64 (sw p 3 : Nat)]) rfl (by kernel_rfl) (by kernel_rfl) (by kernel_rfl) (fun _ _ _ h => h) (Or.inl ⟨by kernel_rfl, ?_⟩) HX.out ?_
          · intro X hS; obtain ⟨_, y0, y1, y2, y3, y4, y5, y6, y7, y8, y9, y10, y11, _, _, _⟩ := hS; go_simp
          try simp only [Act.put, List.setIfInBounds_toArray, List.set_cons_zero, List.set_cons_succ]
          refine wpAnyH_take (i := 14) (oi := ⟨some 35, .load 24 (.tmp 3), _, _, _, _⟩) (v := .agg #[.int .u64 (sw q 0 : Nat), .int .u64 (sw q 1 : Nat), .int .u64 (sw q 2 : Nat), .int .u64 (sw q 3 : Nat)]) rfl (by kernel_rfl) (by kernel_rfl) (by kernel_rfl) (fun _ _ _ h => h) (Or.inl ⟨by kernel_rfl, ?_⟩) HX.out ?_
          · intro X hS; obtain ⟨_, y0, y1, y2, y3, y4, y5, y6, y7, y8, y9, y10, y11, _, _, _⟩ := hS; go_simp
          try simp only [Act.put, List.setIfInBounds_toArray, List.set_cons_zero, List.set_cons_succ]
          refine wpAnyH_take (i := 17) (oi := ⟨some 38, .move (.tmp 7), _, _, _, _⟩) (v := .int .u8 k) rfl (by kernel_rfl) (by kernel_rfl) (by kernel_rfl) (fun _ _ _ h => h) (Or.inl ⟨by kernel_rfl, ?_⟩) HX.out ?_
          · intro X _; go_simp
          try simp only [Act.put, List.setIfInBounds_toArray, List.set_cons_zero, List.set_cons_succ]
          refine wpAnyH_take (i := 19) (oi := ⟨some 40, .load 24 (.tmp 2), _, _, _, _⟩) (v := .agg #[.int .u64 (sw p 0 : Nat), .int .u64 (sw p 1 : Nat), .int .u64 (sw p 2 : Nat), .int .u64 (sw p 3 : Nat)]) rfl (by kernel_rfl) (by kernel_rfl) (by kernel_rfl) (fun _ _ _ h => h) (Or.inl ⟨by kernel_rfl, ?_⟩) HX.out ?_
          · intro X hS; obtain ⟨_, y0, y1, y2, y3, y4, y5, y6, y7, y8, y9, y10, y11, _, _, _⟩ := hS; go_simp
          try simp only [Act.put, List.setIfInBounds_toArray, List.set_cons_zero, List.set_cons_succ]
          refine wpAnyH_take (i := 20) (oi := ⟨some 41, .move (.tmp 7), _, _, _, _⟩) (v := .int .u8 k) rfl (by kernel_rfl) (by kernel_rfl) (by kernel_rfl) (fun _ _ _ h => h) (Or.inl ⟨by kernel_rfl, ?_⟩) HX.out ?_
          · intro X _; go_simp
          try simp only [Act.put, List.setIfInBounds_toArray, List.set_cons_zero, List.set_cons_succ]
          refine wpAnyH_all (rs := [15]) (by kernel_rfl) (by simp) ?_
          intro ii hii
          rw [List.mem_singleton] at hii
          subst hii
          refine wpOp_step (by rfl) ?_
          intro K' hK'
          go_simp
          have HXs := HX
          have HX : Hid (K3 w w.heap.size (w.heap.size + 1) g p q (notP (orP (notP p) (notP q))) (X5.alloc (.cells #[.int .u64 (sw p 0 : Nat), .int .u64 (sw p 1 : Nat), .int .u64 (sw p 2 : Nat), .int .u64 (sw p 3 : Nat), .int .u64 (sw q 0 : Nat), .int .u64 (sw q 1 : Nat), .int .u64 (sw q 2 : Nat), .int .u64 (sw q 3 : Nat)] 24))) := Lib.hid (HX.out.alo _)
          refine hK' _ _ ⟨HX.out, ?_⟩
          clear hK'
          refine wpAnyH_all (rs := [16]) (by kernel_rfl) (by simp) ?_
          intro ii hii
          rw [List.mem_singleton] at hii
          subst hii
          refine wpOp_step (by rfl) ?_
          intro K' hK'
          go_simp
          go_at_call 18
          refine (HU2.out _).mono ?_
          rintro e X16 ⟨rfl, hbc⟩
          have HX : Hid (K3 w w.heap.size (w.heap.size + 1) g p q (notP (orP (notP p) (notP q))) X16) := Lib.hid (HXs.out.nxt hbc)
          clear hbc
          unfold SV
          refine hK' _ _ ⟨HX.out, ?_⟩
          clear hK'
          refine wpAnyH_all (rs := [18]) (by kernel_rfl) (by simp) ?_
          intro ii hii
          rw [List.mem_singleton] at hii
          subst hii
          refine wpOp_step (by rfl) ?_
          intro K' hK'
          go_simp
          go_at_call 21
          refine (Hbo.out _).mono ?_
          rintro e X18 ⟨rfl, hbc⟩
          have HX : Hid (K3 w w.heap.size (w.heap.size + 1) g p q (notP (orP (notP p) (notP q))) X18) := Lib.hid (HX.out.nxt hbc)
          clear hbc
          refine hK' _ _ ⟨HX.out, ?_⟩
          clear hK'
          refine wpAnyH_all (rs := [21]) (by kernel_rfl) (by simp) ?_
          intro ii hii
          rw [List.mem_singleton] at hii
          subst hii
          refine wpOp_step (by rfl) ?_
          intro K' hK'
          go_simp
          go_at_call 21
          refine (Hbp.out _).mono ?_
          rintro e X21 ⟨rfl, hbc⟩
          have HX : Hid (K3 w w.heap.size (w.heap.size + 1) g p q (notP (orP (notP p) (notP q))) X21) := Lib.hid (HX.out.nxt hbc)
          clear hbc
          refine hK' _ _ ⟨HX.out, ?_⟩
          clear hK'
          refine wpAnyH_take (i := 22) (oi := ⟨some 43, .move (.tmp 42), _, _, _, _⟩) (v := .bool false) rfl (by kernel_rfl) (by kernel_rfl) (by kernel_rfl) (fun _ _ _ h => h) (Or.inl ⟨by kernel_rfl, ?_⟩) HX.out ?_
          · intro X _; go_simp
          try simp only [Act.put, List.setIfInBounds_toArray, List.set_cons_zero, List.set_cons_succ]
          refine wpAnyH_take (i := 23) (oi := ⟨some 44, .load 24 (.tmp 3), _, _, _, _⟩) (v := .agg #[.int .u64 (sw q 0 : Nat), .int .u64 (sw q 1 : Nat), .int .u64 (sw q 2 : Nat), .int .u64 (sw q 3 : Nat)]) rfl (by kernel_rfl) (by kernel_rfl) (by kernel_rfl) (fun _ _ _ h => h) (Or.inl ⟨by kernel_rfl, ?_⟩) HX.out ?_
          · intro X hS; obtain ⟨_, y0, y1, y2, y3, y4, y5, y6, y7, y8, y9, y10, y11, _, _, _⟩ := hS; go_simp
          try simp only [Act.put, List.setIfInBounds_toArray, List.set_cons_zero, List.set_cons_succ]
          refine wpAnyH_take (i := 24) (oi := ⟨some 45, .move (.tmp 7), _, _, _, _⟩) (v := .int .u8 k) rfl (by kernel_rfl) (by kernel_rfl) (by kernel_rfl) (fun _ _ _ h => h) (Or.inl ⟨by kernel_rfl, ?_⟩) HX.out ?_
          · intro X _; go_simp
          try simp only [Act.put, List.setIfInBounds_toArray, List.set_cons_zero, List.set_cons_succ]
          refine wpAnyH_all (rs := [25]) (by kernel_rfl) (by simp) ?_
          intro ii hii
          rw [List.mem_singleton] at hii
          subst hii
          refine wpOp_step (by rfl) ?_
          intro K' hK'
          go_simp
          go_at_call 21
          refine (Hbq.out _).mono ?_
          rintro e X25 ⟨rfl, hbc⟩
          have HX : Hid (K3 w w.heap.size (w.heap.size + 1) g p q (notP (orP (notP p) (notP q))) X25) := Lib.hid (HX.out.nxt hbc)
          clear hbc
          refine hK' _ _ ⟨HX.out, ?_⟩
          clear hK'
          refine wpAnyH_take (i := 26) (oi := ⟨some 47, .pick (.tmp 43) (.const (.bool true)) (.tmp 46), _, _, _, _⟩) (v := .bool false) rfl (by kernel_rfl) (by kernel_rfl) (by kernel_rfl) (fun _ _ _ h => h) (Or.inl ⟨by kernel_rfl, ?_⟩) HX.out ?_
          · intro X _; go_simp
          try simp only [Act.put, List.setIfInBounds_toArray, List.set_cons_zero, List.set_cons_succ]
          refine wpAnyH_take (i := 27) (oi := ⟨some 48, .binOp .neq 4 (.tmp 39) (.tmp 47) 4, _, _, _, _⟩) (v := .bool false) rfl (by kernel_rfl) (by kernel_rfl) (by kernel_rfl) (fun _ _ _ h => h) (Or.inl ⟨by kernel_rfl, ?_⟩) HX.out ?_
          · intro X _; go_simp
          try simp only [Act.put, List.setIfInBounds_toArray, List.set_cons_zero, List.set_cons_succ]
          refine wpAnyH_take (i := 28) (oi := ⟨some 49, .pick (.tmp 33) (.const (.bool true)) (.tmp 48), _, _, _, _⟩) (v := .bool false) rfl (by kernel_rfl) (by kernel_rfl) (by kernel_rfl) (fun _ _ _ h => h) (Or.inl ⟨by kernel_rfl, ?_⟩) HX.out ?_
          · intro X _; go_simp
          try simp only [Act.put, List.setIfInBounds_toArray, List.set_cons_zero, List.set_cons_succ]
          refine wpAnyH_take (i := 29) (oi := ⟨some 50, .move (.tmp 49), _, _, _, _⟩) (v := .bool false) rfl (by kernel_rfl) (by kernel_rfl) (by kernel_rfl) (fun _ _ _ h => h) (Or.inl ⟨by kernel_rfl, ?_⟩) HX.out ?_
          · intro X _; go_simp
          try simp only [Act.put, List.setIfInBounds_toArray, List.set_cons_zero, List.set_cons_succ]
          refine wpAnyH_take (i := 30) (oi := ⟨some 51, .load 24 (.tmp 2), _, _, _, _⟩) (v := .agg #[.int .u64 (sw p 0 : Nat), .int .u64 (sw p 1 : Nat), .int .u64 (sw p 2 : Nat), .int .u64 (sw p 3 : Nat)]) rfl (by kernel_rfl) (by kernel_rfl) (by kernel_rfl) (fun _ _ _ h => h) (Or.inl ⟨by kernel_rfl, ?_⟩) HX.out ?_
          · intro X hS; obtain ⟨_, y0, y1, y2, y3, y4, y5, y6, y7, y8, y9, y10, y11, _, _, _⟩ := hS; go_simp
          try simp only [Act.put, List.setIfInBounds_toArray, List.set_cons_zero, List.set_cons_succ]
          refine wpAnyH_take (i := 32) (oi := ⟨some 53, .move (.tmp 7), _, _, _, _⟩) (v := .int .u8 k) rfl (by kernel_rfl) (by kernel_rfl) (by kernel_rfl) (fun _ _ _ h => h) (Or.inl ⟨by kernel_rfl, ?_⟩) HX.out ?_
          · intro X _; go_simp
          try simp only [Act.put, List.setIfInBounds_toArray, List.set_cons_zero, List.set_cons_succ]
          refine wpAnyH_take (i := 34) (oi := ⟨some 55, .load 24 (.tmp 2), _, _, _, _⟩) (v := .agg #[.int .u64 (sw p 0 : Nat), .int .u64 (sw p 1 : Nat), .int .u64 (sw p 2 : Nat), .int .u64 (sw p 3 : Nat)]) rfl (by kernel_rfl) (by kernel_rfl) (by kernel_rfl) (fun _ _ _ h => h) (Or.inl ⟨by kernel_rfl, ?_⟩) HX.out ?_
          · intro X hS; obtain ⟨_, y0, y1, y2, y3, y4, y5, y6, y7, y8, y9, y10, y11, _, _, _⟩ := hS; go_simp
          try simp only [Act.put, List.setIfInBounds_toArray, List.set_cons_zero, List.set_cons_succ]
          refine wpAnyH_take (i := 35) (oi := ⟨some 56, .move (.tmp 7), _, _, _, _⟩) (v := .int .u8 k) rfl (by kernel_rfl) (by kernel_rfl) (by kernel_rfl) (fun _ _ _ h => h) (Or.inl ⟨by kernel_rfl, ?_⟩) HX.out ?_
          · intro X _; go_simp
          try simp only [Act.put, List.setIfInBounds_toArray, List.set_cons_zero, List.set_cons_succ]
          refine wpAnyH_all (rs := [31]) (by kernel_rfl) (by simp) ?_
          intro ii hii
          rw [List.mem_singleton] at hii
          subst hii
          refine wpOp_step (by rfl) ?_
          intro K' hK'
          go_simp
          go_at_call 16
          refine ((N1 _).out).mono ?_
          rintro e X31 ⟨rfl, hbc⟩
          have HX : Hid (K3 w w.heap.size (w.heap.size + 1) g p q (notP (orP (notP p) (notP q))) X31) := Lib.hid (HX.out.nxt hbc)
          clear hbc
          unfold SV
          refine hK' _ _ ⟨HX.out, ?_⟩
          clear hK'
          refine wpAnyH_all (rs := [33]) (by kernel_rfl) (by simp) ?_
          intro ii hii
          rw [List.mem_singleton] at hii
          subst hii
          refine wpOp_step (by rfl) ?_
          intro K' hK'
          go_simp
          go_at_call 21
          refine (Hbn.out _).mono ?_
          rintro e X33 ⟨rfl, hbc⟩
          have HX : Hid (K3 w w.heap.size (w.heap.size + 1) g p q (notP (orP (notP p) (notP q))) X33) := Lib.hid (HX.out.nxt hbc)
          clear hbc
          refine hK' _ _ ⟨HX.out, ?_⟩
          clear hK'
          refine wpAnyH_all (rs := [36]) (by kernel_rfl) (by simp) ?_
          intro ii hii
          rw [List.mem_singleton] at hii
          subst hii
          refine wpOp_step (by rfl) ?_
          intro K' hK'
          go_simp
          go_at_call 21
          refine (Hbp.out _).mono ?_
          rintro e X36 ⟨rfl, hbc⟩
          have HX : Hid (K3 w w.heap.size (w.heap.size + 1) g p q (notP (orP (notP p) (notP q))) X36) := Lib.hid (HX.out.nxt hbc)
          clear hbc
          refine hK' _ _ ⟨HX.out, ?_⟩
          clear hK'
          refine wpAnyH_take (i := 37) (oi := ⟨some 58, .binOp .eql 4 (.tmp 54) (.tmp 57) 4, _, _, _, _⟩) (v := .bool false) rfl (by kernel_rfl) (by kernel_rfl) (by kernel_rfl) (fun _ _ _ h => h) (Or.inl ⟨by kernel_rfl, ?_⟩) HX.out ?_
          · intro X _; go_simp
          try simp only [Act.put, List.setIfInBounds_toArray, List.set_cons_zero, List.set_cons_succ]
          refine wpAnyH_take (i := 38) (oi := ⟨some 59, .pick (.tmp 50) (.const (.bool true)) (.tmp 58), _, _, _, _⟩) (v := .bool false) rfl (by kernel_rfl) (by kernel_rfl) (by kernel_rfl) (fun _ _ _ h => h) (Or.inl ⟨by kernel_rfl, ?_⟩) HX.out ?_
          · intro X _; go_simp
          try simp only [Act.put, List.setIfInBounds_toArray, List.set_cons_zero, List.set_cons_succ]
          refine wpAnyH_done (by kernel_rfl) ?_ _
          go_wp2_with fail
          go_roundw
          case rel => exact ⟨k + 1, by omega, by go_num, HX.out⟩
          case measure => simp [intOf]; omega
        · rw [hp, hq] at hbU hbo
          rw [hp] at hbp hbn
          rw [hq] at hbq
          have HbU := Lib.hid hbU; have Hbp := Lib.hid hbp; have Hbq := Lib.hid hbq; have Hbo := Lib.hid hbo; have Hbn := Lib.hid hbn
          clear hbU hbp hbq hbo hbn hp hq
          go_wp2_with fail
          have HX : Hid (K3 w w.heap.size (w.heap.size + 1) g p q (notP (orP (notP p) (notP q))) wr.drew) := Lib.hid HK.out.drew
          refine wp_region_held (S := fun X => K3 w w.heap.size (w.heap.size + 1) g p q (notP (orP (notP p) (notP q))) X) (by kernel_rfl) ?_
          try (change wpAnyH _ _ _ _ _ _ _ _ (World.drew _))
          generalize wr.drew = X0 at *
          refine wpAnyH_take (i := 0) (oi := ⟨some 21, .load 24 (.tmp 5), _, _, _, _⟩) (v := .agg #[.int .u64 (sw (notP (orP (notP p) (notP q))) 0 : Nat), .int .u64 (sw (notP (orP (notP p) (notP q))) 1 : Nat), .int .u64 (sw (notP (orP (notP p) (notP q))) 2 : Nat), .int .u64 (sw (notP (orP (notP p) (notP q))) 3 : Nat)]) rfl (by kernel_rfl) (by kernel_rfl) (by kernel_rfl) (fun _ _ _ h => h) (Or.inl ⟨by kernel_rfl, ?_⟩) HX.out ?_
          · intro X hS; obtain ⟨_, y0, y1, y2, y3, y4, y5, y6, y7, y8, y9, y10, y11, _, _, _⟩ := hS; go_simp
          try simp only [Act.put, List.setIfInBounds_toArray, List.set_cons_zero, List.set_cons_succ]
          refine wpAnyH_take (i := 1) (oi := ⟨some 22, .move (.tmp 7), _, _, _, _⟩) (v := .int .u8 k) rfl (by kernel_rfl) (by kernel_rfl) (by kernel_rfl) (fun _ _ _ h => h) (Or.inl ⟨by kernel_rfl, ?_⟩) HX.out ?_
          · intro X _; go_simp
          try simp only [Act.put, List.setIfInBounds_toArray, List.set_cons_zero, List.set_cons_succ]
          refine wpAnyH_take (i := 3) (oi := ⟨some 24, .load 24 (.tmp 2), _, _, _, _⟩) (v := .agg #[.int .u64 (sw p 0 : Nat), .int .u64 (sw p 1 : Nat), .int .u64 (sw p 2 : Nat), .int .u64 (sw p 3 : Nat)]) rfl (by kernel_rfl) (by kernel_rfl) (by kernel_rfl) (fun _ _ _ h => h) (Or.inl ⟨by kernel_rfl, ?_⟩) HX.out ?_
          · intro X hS; obtain ⟨_, y0, y1, y2, y3, y4, y5, y6, y7, y8, y9, y10, y11, _, _, _⟩ := hS; go_simp
          try simp only [Act.put, List.setIfInBounds_toArray, List.set_cons_zero, List.set_cons_succ]
          refine wpAnyH_take (i := 4) (oi := ⟨some 25, .move (.tmp 7), _, _, _, _⟩) (v := .int .u8 k) rfl (by kernel_rfl) (by kernel_rfl) (by kernel_rfl) (fun _ _ _ h => h) (Or.inl ⟨by kernel_rfl, ?_⟩) HX.out ?_
          · intro X _; go_simp
          try simp only [Act.put, List.setIfInBounds_toArray, List.set_cons_zero, List.set_cons_succ]
          refine wpAnyH_all (rs := [2]) (by kernel_rfl) (by simp) ?_
          intro ii hii
          rw [List.mem_singleton] at hii
          subst hii
          refine wpOp_step (by rfl) ?_
          intro K' hK'
          go_simp
          go_at_call 21
          refine (HbU.out _).mono ?_
          rintro e X2 ⟨rfl, hbc⟩
          have HX : Hid (K3 w w.heap.size (w.heap.size + 1) g p q (notP (orP (notP p) (notP q))) X2) := Lib.hid (HX.out.nxt hbc)
          clear hbc
          refine hK' _ _ ⟨HX.out, ?_⟩
          clear hK'
          refine wpAnyH_all (rs := [5]) (by kernel_rfl) (by simp) ?_
          intro ii hii
          rw [List.mem_singleton] at hii
          subst hii
          refine wpOp_step (by rfl) ?_
          intro K' hK'
          go_simp
          go_at_call 21
          refine (Hbp.out _).mono ?_
          rintro e X5 ⟨rfl, hbc⟩
          have HX : Hid (K3 w w.heap.size (w.heap.size + 1) g p q (notP (orP (notP p) (notP q))) X5) := Lib.hid (HX.out.nxt hbc)
          clear hbc
          refine hK' _ _ ⟨HX.out, ?_⟩
          clear hK'
          refine wpAnyH_take (i := 6) (oi := ⟨some 27, .move (.tmp 26), _, _, _, _⟩) (v := .bool false) rfl (by kernel_rfl) (by kernel_rfl) (by kernel_rfl) (fun _ _ _ h => h) (Or.inl ⟨by kernel_rfl, ?_⟩) HX.out ?_
          · intro X _; go_simp
          try simp only [Act.put, List.setIfInBounds_toArray, List.set_cons_zero, List.set_cons_succ]
          refine wpAnyH_take (i := 7) (oi := ⟨some 28, .load 24 (.tmp 3), _, _, _, _⟩) (v := undef) rfl (by kernel_rfl) (by kernel_rfl) (by kernel_rfl) (fun _ _ _ h => h) (Or.inr ⟨by kernel_rfl, rfl⟩) HX.out ?_
          try simp only [Act.put, List.setIfInBounds_toArray, List.set_cons_zero, List.set_cons_succ]
          refine wpAnyH_take (i := 8) (oi := ⟨some 29, .move (.tmp 7), _, _, _, _⟩) (v := undef) rfl (by kernel_rfl) (by kernel_rfl) (by kernel_rfl) (fun _ _ _ h => h) (Or.inr ⟨by kernel_rfl, rfl⟩) HX.out ?_
          try simp only [Act.put, List.setIfInBounds_toArray, List.set_cons_zero, List.set_cons_succ]
          refine wpAnyH_take (i := 9) (oi := ⟨some 30, _, _, _, _, _⟩) (v := undef) rfl (by kernel_rfl) (by kernel_rfl) (by kernel_rfl) (fun _ _ _ h => h) (Or.inr ⟨by kernel_rfl, rfl⟩) HX.out ?_
          try simp only [Act.put, List.setIfInBounds_toArray, List.set_cons_zero, List.set_cons_succ]
          refine wpAnyH_take (i := 10) (oi := ⟨some 31, .pick (.tmp 27) (.tmp 30) (.const (.bool false)), _, _, _, _⟩) (v := .bool false) rfl (by kernel_rfl) (by kernel_rfl) (by kernel_rfl) (fun _ _ _ h => h) (Or.inl ⟨by kernel_rfl, ?_⟩) HX.out ?_
          · intro X _; go_simp
          try simp only [Act.put, List.setIfInBounds_toArray, List.set_cons_zero, List.set_cons_succ]
          refine wpAnyH_take (i := 11) (oi := ⟨some 32, .binOp .neq 4 (.tmp 23) (.tmp 31) 4, _, _, _, _⟩) (v := .bool false) rfl (by kernel_rfl) (by kernel_rfl) (by kernel_rfl) (fun _ _ _ h => h) (Or.inl ⟨by kernel_rfl, ?_⟩) HX.out ?_
          · intro X _; go_simp
          try simp only [Act.put, List.setIfInBounds_toArray, List.set_cons_zero, List.set_cons_succ]
          refine wpAnyH_take (i := 12) (oi := ⟨some 33, .move (.tmp 32), _, _, _, _⟩) (v := .bool false) rfl (by kernel_rfl) (by kernel_rfl) (by kernel_rfl) (fun _ _ _ h => h) (Or.inl ⟨by kernel_rfl, ?_⟩) HX.out ?_
          · intro X _; go_simp
          try simp only [Act.put, List.setIfInBounds_toArray, List.set_cons_zero, List.set_cons_succ]
          refine wpAnyH_take (i := 13) (oi := ⟨some 34, .load 24 (.tmp 2), _, _, _, _⟩) (v := .agg #[.int .u64 (sw p 0 : Nat), .int .u64 (sw p 1 : Nat), .int .u64 (sw p 2 : Nat), .int .u64 (sw p 3 : Nat)]) rfl (by kernel_rfl) (by kernel_rfl) (by kernel_rfl) (fun _ _ _ h => h) (Or.inl ⟨by kernel_rfl, ?_⟩) HX.out ?_
          · intro X hS; obtain ⟨_, y0, y1, y2, y3, y4, y5, y6, y7, y8, y9, y10, y11, _, _, _⟩ := hS; go_simp
          try simp only [Act.put, List.setIfInBounds_toArray, List.set_cons_zero, List.set_cons_succ]
          refine wpAnyH_take (i := 14) (oi := ⟨some 35, .load 24 (.tmp 3), _, _, _, _⟩) (v := .agg #[.int .u64 (sw q 0 : Nat), .int .u64 (sw q 1 : Nat), .int .u64 (sw q 2 : Nat), .int .u64 (sw q 3 : Nat)]) rfl (by kernel_rfl) (by kernel_rfl) (by kernel_rfl) (fun _ _ _ h => h) (Or.inl ⟨by kernel_rfl, ?_⟩) HX.out ?_
          · intro X hS; obtain ⟨_, y0, y1, y2, y3, y4, y5, y6, y7, y8, y9, y10, y11, _, _, _⟩ := hS; go_simp
          try simp only [Act.put, List.setIfInBounds_toArray, List.set_cons_zero, List.set_cons_succ]
          refine wpAnyH_take (i := 17) (oi := ⟨some 38, .move (.tmp 7), _, _, _, _⟩) (v := .int .u8 k) rfl (by kernel_rfl) (by kernel_rfl) (by kernel_rfl) (fun _ _ _ h => h) (Or.inl ⟨by kernel_rfl, ?_⟩) HX.out ?_
          · intro X _; go_simp
          try simp only [Act.put, List.setIfInBounds_toArray, List.set_cons_zero, List.set_cons_succ]
          refine wpAnyH_take (i := 19) (oi := ⟨some 40, .load 24 (.tmp 2), _, _, _, _⟩) (v := .agg #[.int .u64 (sw p 0 : Nat), .int .u64 (sw p 1 : Nat), .int .u64 (sw p 2 : Nat), .int .u64 (sw p 3 : Nat)]) rfl (by kernel_rfl) (by kernel_rfl) (by kernel_rfl) (fun _ _ _ h => h) (Or.inl ⟨by kernel_rfl, ?_⟩) HX.out ?_
          · intro X hS; obtain ⟨_, y0, y1, y2, y3, y4, y5, y6, y7, y8, y9, y10, y11, _, _, _⟩ := hS; go_simp
          try simp only [Act.put, List.setIfInBounds_toArray, List.set_cons_zero, List.set_cons_succ]
          refine wpAnyH_take (i := 20) (oi := ⟨some 41, .move (.tmp 7), _, _, _, _⟩) (v := .int .u8 k) rfl (by kernel_rfl) (by kernel_rfl) (by kernel_rfl) (fun _ _ _ h => h) (Or.inl ⟨by kernel_rfl, ?_⟩) HX.out ?_
          · intro X _; go_simp
          try simp only [Act.put, List.setIfInBounds_toArray, List.set_cons_zero, List.set_cons_succ]
          refine wpAnyH_all (rs := [15]) (by kernel_rfl) (by simp) ?_
          intro ii hii
          rw [List.mem_singleton] at hii
          subst hii
          refine wpOp_step (by rfl) ?_
          intro K' hK'
          go_simp
          have HXs := HX
          have HX : Hid (K3 w w.heap.size (w.heap.size + 1) g p q (notP (orP (notP p) (notP q))) (X5.alloc (.cells #[.int .u64 (sw p 0 : Nat), .int .u64 (sw p 1 : Nat), .int .u64 (sw p 2 : Nat), .int .u64 (sw p 3 : Nat), .int .u64 (sw q 0 : Nat), .int .u64 (sw q 1 : Nat), .int .u64 (sw q 2 : Nat), .int .u64 (sw q 3 : Nat)] 24))) := Lib.hid (HX.out.alo _)
          refine hK' _ _ ⟨HX.out, ?_⟩
          clear hK'
          refine wpAnyH_all (rs := [16]) (by kernel_rfl) (by simp) ?_
          intro ii hii
          rw [List.mem_singleton] at hii
          subst hii
          refine wpOp_step (by rfl) ?_
          intro K' hK'
          go_simp
          go_at_call 18
          refine (HU2.out _).mono ?_
          rintro e X16 ⟨rfl, hbc⟩
          have HX : Hid (K3 w w.heap.size (w.heap.size + 1) g p q (notP (orP (notP p) (notP q))) X16) := Lib.hid (HXs.out.nxt hbc)
          clear hbc
          unfold SV
          refine hK' _ _ ⟨HX.out, ?_⟩
          clear hK'
          refine wpAnyH_all (rs := [18]) (by kernel_rfl) (by simp) ?_
          intro ii hii
          rw [List.mem_singleton] at hii
          subst hii
          refine wpOp_step (by rfl) ?_
          intro K' hK'
          go_simp
          go_at_call 21
          refine (Hbo.out _).mono ?_
          rintro e X18 ⟨rfl, hbc⟩
          have HX : Hid (K3 w w.heap.size (w.heap.size + 1) g p q (notP (orP (notP p) (notP q))) X18) := Lib.hid (HX.out.nxt hbc)
          clear hbc
          refine hK' _ _ ⟨HX.out, ?_⟩
          clear hK'
          refine wpAnyH_all (rs := [21]) (by kernel_rfl) (by simp) ?_
          intro ii hii
          rw [List.mem_singleton] at hii
          subst hii
          refine wpOp_step (by rfl) ?_
          intro K' hK'
          go_simp
          go_at_call 21
          refine (Hbp.out _).mono ?_
          rintro e X21 ⟨rfl, hbc⟩
          have HX : Hid (K3 w w.heap.size (w.heap.size + 1) g p q (notP (orP (notP p) (notP q))) X21) := Lib.hid (HX.out.nxt hbc)
          clear hbc
          refine hK' _ _ ⟨HX.out, ?_⟩
          clear hK'
          refine wpAnyH_take (i := 22) (oi := ⟨some 43, .move (.tmp 42), _, _, _, _⟩) (v := .bool false) rfl (by kernel_rfl) (by kernel_rfl) (by kernel_rfl) (fun _ _ _ h => h) (Or.inl ⟨by kernel_rfl, ?_⟩) HX.out ?_
          · intro X _; go_simp
          try simp only [Act.put, List.setIfInBounds_toArray, List.set_cons_zero, List.set_cons_succ]
          refine wpAnyH_take (i := 23) (oi := ⟨some 44, .load 24 (.tmp 3), _, _, _, _⟩) (v := .agg #[.int .u64 (sw q 0 : Nat), .int .u64 (sw q 1 : Nat), .int .u64 (sw q 2 : Nat), .int .u64 (sw q 3 : Nat)]) rfl (by kernel_rfl) (by kernel_rfl) (by kernel_rfl) (fun _ _ _ h => h) (Or.inl ⟨by kernel_rfl, ?_⟩) HX.out ?_
          · intro X hS; obtain ⟨_, y0, y1, y2, y3, y4, y5, y6, y7, y8, y9, y10, y11, _, _, _⟩ := hS; go_simp
          try simp only [Act.put, List.setIfInBounds_toArray, List.set_cons_zero, List.set_cons_succ]
          refine wpAnyH_take (i := 24) (oi := ⟨some 45, .move (.tmp 7), _, _, _, _⟩) (v := .int .u8 k) rfl (by kernel_rfl) (by kernel_rfl) (by kernel_rfl) (fun _ _ _ h => h) (Or.inl ⟨by kernel_rfl, ?_⟩) HX.out ?_
          · intro X _; go_simp
          try simp only [Act.put, List.setIfInBounds_toArray, List.set_cons_zero, List.set_cons_succ]
          refine wpAnyH_all (rs := [25]) (by kernel_rfl) (by simp) ?_
          intro ii hii
          rw [List.mem_singleton] at hii
          subst hii
          refine wpOp_step (by rfl) ?_
          intro K' hK'
          go_simp
          go_at_call 21
          refine (Hbq.out _).mono ?_
          rintro e X25 ⟨rfl, hbc⟩
          have HX : Hid (K3 w w.heap.size (w.heap.size + 1) g p q (notP (orP (notP p) (notP q))) X25) := Lib.hid (HX.out.nxt hbc)
          clear hbc
          refine hK' _ _ ⟨HX.out, ?_⟩
          clear hK'
          refine wpAnyH_take (i := 26) (oi := ⟨some 47, .pick (.tmp 43) (.const (.bool true)) (.tmp 46), _, _, _, _⟩) (v := .bool true) rfl (by kernel_rfl) (by kernel_rfl) (by kernel_rfl) (fun _ _ _ h => h) (Or.inl ⟨by kernel_rfl, ?_⟩) HX.out ?_
          · intro X _; go_simp
          try simp only [Act.put, List.setIfInBounds_toArray, List.set_cons_zero, List.set_cons_succ]
          refine wpAnyH_take (i := 27) (oi := ⟨some 48, .binOp .neq 4 (.tmp 39) (.tmp 47) 4, _, _, _, _⟩) (v := .bool false) rfl (by kernel_rfl) (by kernel_rfl) (by kernel_rfl) (fun _ _ _ h => h) (Or.inl ⟨by kernel_rfl, ?_⟩) HX.out ?_
          · intro X _; go_simp
          try simp only [Act.put, List.setIfInBounds_toArray, List.set_cons_zero, List.set_cons_succ]
          refine wpAnyH_take (i := 28) (oi := ⟨some 49, .pick (.tmp 33) (.const (.bool true)) (.tmp 48), _, _, _, _⟩) (v := .bool false) rfl (by kernel_rfl) (by kernel_rfl) (by kernel_rfl) (fun _ _ _ h => h) (Or.inl ⟨by kernel_rfl, ?_⟩) HX.out ?_
          · intro X _; go_simp
          try simp only [Act.put, List.setIfInBounds_toArray, List.set_cons_zero, List.set_cons_succ]
          refine wpAnyH_take (i := 29) (oi := ⟨some 50, .move (.tmp 49), _, _, _, _⟩) (v := .bool false) rfl (by kernel_rfl) (by kernel_rfl) (by kernel_rfl) (fun _ _ _ h => h) (Or.inl ⟨by kernel_rfl, ?_⟩) HX.out ?_
          · intro X _; go_simp
          try simp only [Act.put, List.setIfInBounds_toArray, List.set_cons_zero, List.set_cons_succ]
          refine wpAnyH_take (i := 30) (oi := ⟨some 51, .load 24 (.tmp 2), _, _, _, _⟩) (v := .agg #[.int .u64 (sw p 0 : Nat), .int .u64 (sw p 1 : Nat), .int .u64 (sw p 2 : Nat), .int .u64 (sw p 3 : Nat)]) rfl (by kernel_rfl) (by kernel_rfl) (by kernel_rfl) (fun _ _ _ h => h) (Or.inl ⟨by kernel_rfl, ?_⟩) HX.out ?_
          · intro X hS; obtain ⟨_, y0, y1, y2, y3, y4, y5, y6, y7, y8, y9, y10, y11, _, _, _⟩ := hS; go_simp
          try simp only [Act.put, List.setIfInBounds_toArray, List.set_cons_zero, List.set_cons_succ]
          refine wpAnyH_take (i := 32) (oi := ⟨some 53, .move (.tmp 7), _, _, _, _⟩) (v := .int .u8 k) rfl (by kernel_rfl) (by kernel_rfl) (by kernel_rfl) (fun _ _ _ h => h) (Or.inl ⟨by kernel_rfl, ?_⟩) HX.out ?_
          · intro X _; go_simp
          try simp only [Act.put, List.setIfInBounds_toArray, List.set_cons_zero, List.set_cons_succ]
          refine wpAnyH_take (i := 34) (oi := ⟨some 55, .load 24 (.tmp 2), _, _, _, _⟩) (v := .agg #[.int .u64 (sw p 0 : Nat), .int .u64 (sw p 1 : Nat), .int .u64 (sw p 2 : Nat), .int .u64 (sw p 3 : Nat)]) rfl (by kernel_rfl) (by kernel_rfl) (by kernel_rfl) (fun _ _ _ h => h) (Or.inl ⟨by kernel_rfl, ?_⟩) HX.out ?_
          · intro X hS; obtain ⟨_, y0, y1, y2, y3, y4, y5, y6, y7, y8, y9, y10, y11, _, _, _⟩ := hS; go_simp
          try simp only [Act.put, List.setIfInBounds_toArray, List.set_cons_zero, List.set_cons_succ]
          refine wpAnyH_take (i := 35) (oi := ⟨some 56, .move (.tmp 7), _, _, _, _⟩) (v := .int .u8 k) rfl (by kernel_rfl) (by kernel_rfl) (by kernel_rfl) (fun _ _ _ h => h) (Or.inl ⟨by kernel_rfl, ?_⟩) HX.out ?_
          · intro X _; go_simp
          try simp only [Act.put, List.setIfInBounds_toArray, List.set_cons_zero, List.set_cons_succ]
          refine wpAnyH_all (rs := [31]) (by kernel_rfl) (by simp) ?_
          intro ii hii
          rw [List.mem_singleton] at hii
          subst hii
          refine wpOp_step (by rfl) ?_
          intro K' hK'
          go_simp
          go_at_call 16
          refine ((N1 _).out).mono ?_
          rintro e X31 ⟨rfl, hbc⟩
          have HX : Hid (K3 w w.heap.size (w.heap.size + 1) g p q (notP (orP (notP p) (notP q))) X31) := Lib.hid (HX.out.nxt hbc)
          clear hbc
          unfold SV
          refine hK' _ _ ⟨HX.out, ?_⟩
          clear hK'
          refine wpAnyH_all (rs := [33]) (by kernel_rfl) (by simp) ?_
          intro ii hii
          rw [List.mem_singleton] at hii
          subst hii
          refine wpOp_step (by rfl) ?_
          intro K' hK'
          go_simp
          go_at_call 21
          refine (Hbn.out _).mono ?_
          rintro e X33 ⟨rfl, hbc⟩
          have HX : Hid (K3 w w.heap.size (w.heap.size + 1) g p q (notP (orP (notP p) (notP q))) X33) := Lib.hid (HX.out.nxt hbc)
          clear hbc
          refine hK' _ _ ⟨HX.out, ?_⟩
          clear hK'
          refine wpAnyH_all (rs := [36]) (by kernel_rfl) (by simp) ?_
          intro ii hii
          rw [List.mem_singleton] at hii
          subst hii
          refine wpOp_step (by rfl) ?_
          intro K' hK'
          go_simp
          go_at_call 21
          refine (Hbp.out _).mono ?_
          rintro e X36 ⟨rfl, hbc⟩
          have HX : Hid (K3 w w.heap.size (w.heap.size + 1) g p q (notP (orP (notP p) (notP q))) X36) := Lib.hid (HX.out.nxt hbc)
          clear hbc
          refine hK' _ _ ⟨HX.out, ?_⟩
          clear hK'
          refine wpAnyH_take (i := 37) (oi := ⟨some 58, .binOp .eql 4 (.tmp 54) (.tmp 57) 4, _, _, _, _⟩) (v := .bool false) rfl (by kernel_rfl) (by kernel_rfl) (by kernel_rfl) (fun _ _ _ h => h) (Or.inl ⟨by kernel_rfl, ?_⟩) HX.out ?_
          · intro X _; go_simp
          try simp only [Act.put, List.setIfInBounds_toArray, List.set_cons_zero, List.set_cons_succ]
          refine wpAnyH_take (i := 38) (oi := ⟨some 59, .pick (.tmp 50) (.const (.bool true)) (.tmp 58), _, _, _, _⟩) (v := .bool false) rfl (by kernel_rfl) (by kernel_rfl) (by kernel_rfl) (fun _ _ _ h => h) (Or.inl ⟨by kernel_rfl, ?_⟩) HX.out ?_
          · intro X _; go_simp
          try simp only [Act.put, List.setIfInBounds_toArray, List.set_cons_zero, List.set_cons_succ]
          refine wpAnyH_done (by kernel_rfl) ?_ _
          go_wp2_with fail
          go_roundw
          case rel => exact ⟨k + 1, by omega, by go_num, HX.out⟩
          case measure => simp [intOf]; omega
        · rw [hp, hq] at hbU hbo
          rw [hp] at hbp hbn
          rw [hq] at hbq
          have HbU := Lib.hid hbU; have Hbp := Lib.hid hbp; have Hbq := Lib.hid hbq; have Hbo := Lib.hid hbo; have Hbn := Lib.hid hbn
          clear hbU hbp hbq hbo hbn hp hq
          go_wp2_with fail
          have HX : Hid (K3 w w.heap.size (w.heap.size + 1) g p q (notP (orP (notP p) (notP q))) wr.drew) := Lib.hid HK.out.drew
          refine wp_region_held (S := fun X => K3 w w.heap.size (w.heap.size + 1) g p q (notP (orP (notP p) (notP q))) X) (by kernel_rfl) ?_
          try (change wpAnyH _ _ _ _ _ _ _ _ (World.drew _))
          generalize wr.drew = X0 at *
          refine wpAnyH_take (i := 0) (oi := ⟨some 21, .load 24 (.tmp 5), _, _, _, _⟩) (v := .agg #[.int .u64 (sw (notP (orP (notP p) (notP q))) 0 : Nat), .int .u64 (sw (notP (orP (notP p) (notP q))) 1 : Nat), .int .u64 (sw (notP (orP (notP p) (notP q))) 2 : Nat), .int .u64 (sw (notP (orP (notP p) (notP q))) 3 : Nat)]) rfl (by kernel_rfl) (by kernel_rfl) (by kernel_rfl) (fun _ _ _ h => h) (Or.inl ⟨by kernel_rfl, ?_⟩) HX.out ?_
          · intro X hS; obtain ⟨_, y0, y1, y2, y3, y4, y5, y6, y7, y8, y9, y10, y11, _, _, _⟩ := hS; go_simp
          try simp only [Act.put, List.setIfInBounds_toArray, List.set_cons_zero, List.set_cons_succ]
          refine wpAnyH_take (i := 1) (oi := ⟨some 22, .move (.tmp 7), _, _, _, _⟩) (v := .int .u8 k) rfl (by kernel_rfl) (by kernel_rfl) (by kernel_rfl) (fun _ _ _ h => h) (Or.inl ⟨by kernel_rfl, ?_⟩) HX.out ?_
          · intro X _; go_simp
          try simp only [Act.put, List.setIfInBounds_toArray, List.set_cons_zero, List.set_cons_succ]
          refine wpAnyH_take (i := 3) (oi := ⟨some 24, .load 24 (.tmp 2), _, _, _, _⟩) (v := .agg #[.int .u64 (sw p 0 : Nat), .int .u64 (sw p 1 : Nat), .int .u64 (sw p 2 : Nat), .int .u64 (sw p 3 : Nat)]) rfl (by kernel_rfl) (by kernel_rfl) (by kernel_rfl) (fun _ _ _ h => h) (Or.inl ⟨by kernel_rfl, ?_⟩) HX.out ?_
          · intro X hS; obtain ⟨_, y0, y1, y2, y3, y4, y5, y6, y7, y8, y9, y10, y11, _, _, _⟩ := hS; go_simp
          try simp only [Act.put, List.setIfInBounds_toArray, List.set_cons_zero, List.set_cons_succ]
          refine wpAnyH_take (i := 4) (oi := ⟨some 25, .move (.tmp 7), _, _, _, _⟩) (v := .int .u8 k) rfl (by kernel_rfl) (by kernel_rfl) (by kernel_rfl) (fun _ _ _ h => h) (Or.inl ⟨by kernel_rfl, ?_⟩) HX.out ?_
          · intro X _; go_simp
          try simp only [Act.put, List.setIfInBounds_toArray, List.set_cons_zero, List.set_cons_succ]
          refine wpAnyH_all (rs := [2]) (by kernel_rfl) (by simp) ?_
          intro ii hii
          rw [List.mem_singleton] at hii
          subst hii
          refine wpOp_step (by rfl) ?_
          intro K' hK'
          go_simp
          go_at_call 21
          refine (HbU.out _).mono ?_
          rintro e X2 ⟨rfl, hbc⟩
          have HX : Hid (K3 w w.heap.size (w.heap.size + 1) g p q (notP (orP (notP p) (notP q))) X2) := Lib.hid (HX.out.nxt hbc)
          clear hbc
          refine hK' _ _ ⟨HX.out, ?_⟩
          clear hK'
          refine wpAnyH_all (rs := [5]) (by kernel_rfl) (by simp) ?_
          intro ii hii
          rw [List.mem_singleton] at hii
          subst hii
          refine wpOp_step (by rfl) ?_
          intro K' hK'
          go_simp
          go_at_call 21
          refine (Hbp.out _).mono ?_
          rintro e X5 ⟨rfl, hbc⟩
          have HX : Hid (K3 w w.heap.size (w.heap.size + 1) g p q (notP (orP (notP p) (notP q))) X5) := Lib.hid (HX.out.nxt hbc)
          clear hbc
          refine hK' _ _ ⟨HX.out, ?_⟩
          clear hK'
          refine wpAnyH_take (i := 6) (oi := ⟨some 27, .move (.tmp 26), _, _, _, _⟩) (v := .bool true) rfl (by kernel_rfl) (by kernel_rfl) (by kernel_rfl) (fun _ _ _ h => h) (Or.inl ⟨by kernel_rfl, ?_⟩) HX.out ?_
          · intro X _; go_simp
          try simp only [Act.put, List.setIfInBounds_toArray, List.set_cons_zero, List.set_cons_succ]
          refine wpAnyH_take (i := 7) (oi := ⟨some 28, .load 24 (.tmp 3), _, _, _, _⟩) (v := .agg #[.int .u64 (sw q 0 : Nat), .int .u64 (sw q 1 : Nat), .int .u64 (sw q 2 : Nat), .int .u64 (sw q 3 : Nat)]) rfl (by kernel_rfl) (by kernel_rfl) (by kernel_rfl) (fun _ _ _ h => h) (Or.inl ⟨by kernel_rfl, ?_⟩) HX.out ?_
          · intro X hS; obtain ⟨_, y0, y1, y2, y3, y4, y5, y6, y7, y8, y9, y10, y11, _, _, _⟩ := hS; go_simp
          try simp only [Act.put, List.setIfInBounds_toArray, List.set_cons_zero, List.set_cons_succ]
          refine wpAnyH_take (i := 8) (oi := ⟨some 29, .move (.tmp 7), _, _, _, _⟩) (v := .int .u8 k) rfl (by kernel_rfl) (by kernel_rfl) (by kernel_rfl) (fun _ _ _ h => h) (Or.inl ⟨by kernel_rfl, ?_⟩) HX.out ?_
          · intro X _; go_simp
          try simp only [Act.put, List.setIfInBounds_toArray, List.set_cons_zero, List.set_cons_succ]
          refine wpAnyH_all (rs := [9]) (by kernel_rfl) (by simp) ?_
          intro ii hii
          rw [List.mem_singleton] at hii
          subst hii
          refine wpOp_step (by rfl) ?_
          intro K' hK'
          go_simp
          go_at_call 21
          refine (Hbq.out _).mono ?_
          rintro e X9 ⟨rfl, hbc⟩
          have HX : Hid (K3 w w.heap.size (w.heap.size + 1) g p q (notP (orP (notP p) (notP q))) X9) := Lib.hid (HX.out.nxt hbc)
          clear hbc
          refine hK' _ _ ⟨HX.out, ?_⟩
          clear hK'
          refine wpAnyH_take (i := 10) (oi := ⟨some 31, .pick (.tmp 27) (.tmp 30) (.const (.bool false)), _, _, _, _⟩) (v := .bool false) rfl (by kernel_rfl) (by kernel_rfl) (by kernel_rfl) (fun _ _ _ h => h) (Or.inl ⟨by kernel_rfl, ?_⟩) HX.out ?_
          · intro X _; go_simp
          try simp only [Act.put, List.setIfInBounds_toArray, List.set_cons_zero, List.set_cons_succ]
          refine wpAnyH_take (i := 11) (oi := ⟨some 32, .binOp .neq 4 (.tmp 23) (.tmp 31) 4, _, _, _, _⟩) (v := .bool false) rfl (by kernel_rfl) (by kernel_rfl) (by kernel_rfl) (fun _ _ _ h => h) (Or.inl ⟨by kernel_rfl, ?_⟩) HX.out ?_
          · intro X _; go_simp
          try simp only [Act.put, List.setIfInBounds_toArray, List.set_cons_zero, List.set_cons_succ]
          refine wpAnyH_take (i := 12) (oi := ⟨some 33, .move (.tmp 32), _, _, _, _⟩) (v := .bool false) rfl (by kernel_rfl) (by kernel_rfl) (by kernel_rfl) (fun _ _ _ h => h) (Or.inl ⟨by kernel_rfl, ?_⟩) HX.out ?_
          · intro X _; go_simp
          try simp only [Act.put, List.setIfInBounds_toArray, List.set_cons_zero, List.set_cons_succ]
          refine wpAnyH_take (i := 13) (oi := ⟨some 34, .load 24 (.tmp 2), _, _, _, _⟩) (v := .agg #[.int .u64 (sw p 0 : Nat), .int .u64 (sw p 1 : Nat), .int .u64 (sw p 2 : Nat), .int .u64 (sw p 3 : Nat)]) rfl (by kernel_rfl) (by kernel_rfl) (by kernel_rfl) (fun _ _ _ h => h) (Or.inl ⟨by kernel_rfl, ?_⟩) HX.out ?_
          · intro X hS; obtain ⟨_, y0, y1, y2, y3, y4, y5, y6, y7, y8, y9, y10, y11, _, _, _⟩ := hS; go_simp
          try simp only [Act.put, List.setIfInBounds_toArray, List.set_cons_zero, List.set_cons_succ]
          refine wpAnyH_take (i := 14) (oi := ⟨some 35, .load 24 (.tmp 3), _, _, _, _⟩) (v := .agg #[.int .u64 (sw q 0 : Nat), .int .u64 (sw q 1 : Nat), .int .u64 (sw q 2 : Nat), .int .u64 (sw q 3 : Nat)]) rfl (by kernel_rfl) (by kernel_rfl) (by kernel_rfl) (fun _ _ _ h => h) (Or.inl ⟨by kernel_rfl, ?_⟩) HX.out ?_
          · intro X hS; obtain ⟨_, y0, y1, y2, y3, y4, y5, y6, y7, y8, y9, y10, y11, _, _, _⟩ := hS; go_simp
          try simp only [Act.put, List.setIfInBounds_toArray, List.set_cons_zero, List.set_cons_succ]
          refine wpAnyH_take (i := 17) (oi := ⟨some 38, .move (.tmp 7), _, _, _, _⟩) (v := .int .u8 k) rfl (by kernel_rfl) (by kernel_rfl) (by kernel_rfl) (fun _ _ _ h => h) (Or.inl ⟨by kernel_rfl, ?_⟩) HX.out ?_
          · intro X _; go_simp
          try simp only [Act.put, List.setIfInBounds_toArray, List.set_cons_zero, List.set_cons_succ]
          refine wpAnyH_take (i := 19) (oi := ⟨some 40, .load 24 (.tmp 2), _, _, _, _⟩) (v := .agg #[.int .u64 (sw p 0 : Nat), .int .u64 (sw p 1 : Nat), .int .u64 (sw p 2 : Nat), .int .u64 (sw p 3 : Nat)]) rfl (by kernel_rfl) (by kernel_rfl) (by kernel_rfl) (fun _ _ _ h => h) (Or.inl ⟨by kernel_rfl, ?_⟩) HX.out ?_
          · intro X hS; obtain ⟨_, y0, y1, y2, y3, y4, y5, y6, y7, y8, y9, y10, y11, _, _, _⟩ := hS; go_simp
          try simp only [Act.put, List.setIfInBounds_toArray, List.set_cons_zero, List.set_cons_succ]
          refine wpAnyH_take (i := 20) (oi := ⟨some 41, .move (.tmp 7), _, _, _, _⟩) (v := .int .u8 k) rfl (by kernel_rfl) (by kernel_rfl) (by kernel_rfl) (fun _ _ _ h => h) (Or.inl ⟨by kernel_rfl, ?_⟩) HX.out ?_
          · intro X _; go_simp
          try simp only [Act.put, List.setIfInBounds_toArray, List.set_cons_zero, List.set_cons_succ]
          refine wpAnyH_all (rs := [15]) (by kernel_rfl) (by simp) ?_
          intro ii hii
          rw [List.mem_singleton] at hii
          subst hii
          refine wpOp_step (by rfl) ?_
          intro K' hK'
          go_simp
          have HXs := HX
          have HX : Hid (K3 w w.heap.size (w.heap.size + 1) g p q (notP (orP (notP p) (notP q))) (X9.alloc (.cells #[.int .u64 (sw p 0 : Nat), .int .u64 (sw p 1 : Nat), .int .u64 (sw p 2 : Nat), .int .u64 (sw p 3 : Nat), .int .u64 (sw q 0 : Nat), .int .u64 (sw q 1 : Nat), .int .u64 (sw q 2 : Nat), .int .u64 (sw q 3 : Nat)] 24))) := Lib.hid (HX.out.alo _)
          refine hK' _ _ ⟨HX.out, ?_⟩
          clear hK'
          refine wpAnyH_all (rs := [16]) (by kernel_rfl) (by simp) ?_
          intro ii hii
          rw [List.mem_singleton] at hii
          subst hii
          refine wpOp_step (by rfl) ?_
          intro K' hK'
          go_simp
          go_at_call 18
          refine (HU2.out _).mono ?_
          rintro e X16 ⟨rfl, hbc⟩
          have HX : Hid (K3 w w.heap.size (w.heap.size + 1) g p q (notP (orP (notP p) (notP q))) X16) := Lib.hid (HXs.out.nxt hbc)
          clear hbc
          unfold SV
          refine hK' _ _ ⟨HX.out, ?_⟩
          clear hK'
          refine wpAnyH_all (rs := [18]) (by kernel_rfl) (by simp) ?_
          intro ii hii
          rw [List.mem_singleton] at hii
          subst hii
          refine wpOp_step (by rfl) ?_
          intro K' hK'
          go_simp
          go_at_call 21
          refine (Hbo.out _).mono ?_
          rintro e X18 ⟨rfl, hbc⟩
          have HX : Hid (K3 w w.heap.size (w.heap.size + 1) g p q (notP (orP (notP p) (notP q))) X18) := Lib.hid (HX.out.nxt hbc)
          clear hbc
          refine hK' _ _ ⟨HX.out, ?_⟩
          clear hK'
          refine wpAnyH_all (rs := [21]) (by kernel_rfl) (by simp) ?_
          intro ii hii
          rw [List.mem_singleton] at hii
          subst hii
          refine wpOp_step (by rfl) ?_
          intro K' hK'
          go_simp
          go_at_call 21
          refine (Hbp.out _).mono ?_
          rintro e X21 ⟨rfl, hbc⟩
          have HX : Hid (K3 w w.heap.size (w.heap.size + 1) g p q (notP (orP (notP p) (notP q))) X21) := Lib.hid (HX.out.nxt hbc)
          clear hbc
          refine hK' _ _ ⟨HX.out, ?_⟩
          clear hK'
          refine wpAnyH_take (i := 22) (oi := ⟨some 43, .move (.tmp 42), _, _, _, _⟩) (v := .bool true) rfl (by kernel_rfl) (by kernel_rfl) (by kernel_rfl) (fun _ _ _ h => h) (Or.inl ⟨by kernel_rfl, ?_⟩) HX.out ?_
          · intro X _; go_simp
          try simp only [Act.put, List.setIfInBounds_toArray, List.set_cons_zero, List.set_cons_succ]
          refine wpAnyH_take (i := 23) (oi := ⟨some 44, .load 24 (.tmp 3), _, _, _, _⟩) (v := undef) rfl (by kernel_rfl) (by kernel_rfl) (by kernel_rfl) (fun _ _ _ h => h) (Or.inr ⟨by kernel_rfl, rfl⟩) HX.out ?_
          try simp only [Act.put, List.setIfInBounds_toArray, List.set_cons_zero, List.set_cons_succ]
          refine wpAnyH_take (i := 24) (oi := ⟨some 45, .move (.tmp 7), _, _, _, _⟩) (v := undef) rfl (by kernel_rfl) (by kernel_rfl) (by kernel_rfl) (fun _ _ _ h => h) (Or.inr ⟨by kernel_rfl, rfl⟩) HX.out ?_
          try simp only [Act.put, List.setIfInBounds_toArray, List.set_cons_zero, List.set_cons_succ]
          refine wpAnyH_take (i := 25) (oi := ⟨some 46, _, _, _, _, _⟩) (v := undef) rfl (by kernel_rfl) (by kernel_rfl) (by kernel_rfl) (fun _ _ _ h => h) (Or.inr ⟨by kernel_rfl, rfl⟩) HX.out ?_
          try simp only [Act.put, List.setIfInBounds_toArray, List.set_cons_zero, List.set_cons_succ]
          refine wpAnyH_take (i := 26) (oi := ⟨some 47, .pick (.tmp 43) (.const (.bool true)) (.tmp 46), _, _, _, _⟩) (v := .bool true) rfl (by kernel_rfl) (by kernel_rfl) (by kernel_rfl) (fun _ _ _ h => h) (Or.inl ⟨by kernel_rfl, ?_⟩) HX.out ?_
          · intro X _; go_simp
          try simp only [Act.put, List.setIfInBounds_toArray, List.set_cons_zero, List.set_cons_succ]
          refine wpAnyH_take (i := 27) (oi := ⟨some 48, .binOp .neq 4 (.tmp 39) (.tmp 47) 4, _, _, _, _⟩) (v := .bool false) rfl (by kernel_rfl) (by kernel_rfl) (by kernel_rfl) (fun _ _ _ h => h) (Or.inl ⟨by kernel_rfl, ?_⟩) HX.out ?_
          · intro X _; go_simp
          try simp only [Act.put, List.setIfInBounds_toArray, List.set_cons_zero, List.set_cons_succ]
          refine wpAnyH_take (i := 28) (oi := ⟨some 49, .pick (.tmp 33) (.const (.bool true)) (.tmp 48), _, _, _, _⟩) (v := .bool false) rfl (by kernel_rfl) (by kernel_rfl) (by kernel_rfl) (fun _ _ _ h => h) (Or.inl ⟨by kernel_rfl, ?_⟩) HX.out ?_
          · intro X _; go_simp
          try simp only [Act.put, List.setIfInBounds_toArray, List.set_cons_zero, List.set_cons_succ]
          refine wpAnyH_take (i := 29) (oi := ⟨some 50, .move (.tmp 49), _, _, _, _⟩) (v := .bool false) rfl (by kernel_rfl) (by kernel_rfl) (by kernel_rfl) (fun _ _ _ h => h) (Or.inl ⟨by kernel_rfl, ?_⟩) HX.out ?_
          · intro X _; go_simp
          try simp only [Act.put, List.setIfInBounds_toArray, List.set_cons_zero, List.set_cons_succ]
          refine wpAnyH_take (i := 30) (oi := ⟨some 51, .load 24 (.tmp 2), _, _, _, _⟩) (v := .agg #[.int .u64 (sw p 0 : Nat), .int .u64 (sw p 1 : Nat), .int .u64 (sw p 2 : Nat), .int .u64 (sw p 3 : Nat)]) rfl (by kernel_rfl) (by kernel_rfl) (by kernel_rfl) (fun _ _ _ h => h) (Or.inl ⟨by kernel_rfl, ?_⟩) HX.out ?_
          · intro X hS; obtain ⟨_, y0, y1, y2, y3, y4, y5, y6, y7, y8, y9, y10, y11, _, _, _⟩ := hS; go_simp
          try simp only [Act.put, List.setIfInBounds_toArray, List.set_cons_zero, List.set_cons_succ]
          refine wpAnyH_take (i := 32) (oi := ⟨some 53, .move (.tmp 7), _, _, _, _⟩) (v := .int .u8 k) rfl (by kernel_rfl) (by kernel_rfl) (by kernel_rfl) (fun _ _ _ h => h) (Or.inl ⟨by kernel_rfl, ?_⟩) HX.out ?_
          · intro X _; go_simp
          try simp only [Act.put, List.setIfInBounds_toArray, List.set_cons_zero, List.set_cons_succ]
          refine wpAnyH_take (i := 34) (oi := ⟨some 55, .load 24 (.tmp 2), _, _, _, _⟩) (v := .agg #[.int .u64 (sw p 0 : Nat), .int .u64 (sw p 1 : Nat), .int .u64 (sw p 2 : Nat), .int .u64 (sw p 3 : Nat)]) rfl (by kernel_rfl) (by kernel_rfl) (by kernel_rfl) (fun _ _ _ h => h) (Or.inl ⟨by kernel_rfl, ?_⟩) HX.out ?_
          · intro X hS; obtain ⟨_, y0, y1, y2, y3, y4, y5, y6, y7, y8, y9, y10, y11, _, _, _⟩ := hS; go_simp
          try simp only [Act.put, List.setIfInBounds_toArray, List.set_cons_zero, List.set_cons_succ]
          refine wpAnyH_take (i := 35) (oi := ⟨some 56, .move (.tmp 7), _, _, _, _⟩) (v := .int .u8 k) rfl (by kernel_rfl) (by kernel_rfl) (by kernel_rfl) (fun _ _ _ h => h) (Or.inl ⟨by kernel_rfl, ?_⟩) HX.out ?_
          · intro X _; go_simp
          try simp only [Act.put, List.setIfInBounds_toArray, List.set_cons_zero, List.set_cons_succ]
          refine wpAnyH_all (rs := [31]) (by kernel_rfl) (by simp) ?_
          intro ii hii
          rw [List.mem_singleton] at hii
          subst hii
          refine wpOp_step (by rfl) ?_
          intro K' hK'
          go_simp
          go_at_call 16
          refine ((N1 _).out).mono ?_
          rintro e X31 ⟨rfl, hbc⟩
          have HX : Hid (K3 w w.heap.size (w.heap.size + 1) g p q (notP (orP (notP p) (notP q))) X31) := Lib.hid (HX.out.nxt hbc)
          clear hbc
          unfold SV
          refine hK' _ _ ⟨HX.out, ?_⟩
          clear hK'
          refine wpAnyH_all (rs := [33]) (by kernel_rfl) (by simp) ?_
          intro ii hii
          rw [List.mem_singleton] at hii
          subst hii
          refine wpOp_step (by rfl) ?_
          intro K' hK'
          go_simp
          go_at_call 21
          refine (Hbn.out _).mono ?_
          rintro e X33 ⟨rfl, hbc⟩
          have HX : Hid (K3 w w.heap.size (w.heap.size + 1) g p q (notP (orP (notP p) (notP q))) X33) := Lib.hid (HX.out.nxt hbc)
          clear hbc
          refine hK' _ _ ⟨HX.out, ?_⟩
          clear hK'
          refine wpAnyH_all (rs := [36]) (by kernel_rfl) (by simp) ?_
          intro ii hii
          rw [List.mem_singleton] at hii
          subst hii
          refine wpOp_step (by rfl) ?_
          intro K' hK'
          go_simp
          go_at_call 21
          refine (Hbp.out _).mono ?_
          rintro e X36 ⟨rfl, hbc⟩
          have HX : Hid (K3 w w.heap.size (w.heap.size + 1) g p q (notP (orP (notP p) (notP q))) X36) := Lib.hid (HX.out.nxt hbc)
          clear hbc
          refine hK' _ _ ⟨HX.out, ?_⟩
          clear hK'
          refine wpAnyH_take (i := 37) (oi := ⟨some 58, .binOp .eql 4 (.tmp 54) (.tmp 57) 4, _, _, _, _⟩) (v := .bool false) rfl (by kernel_rfl) (by kernel_rfl) (by kernel_rfl) (fun _ _ _ h => h) (Or.inl ⟨by kernel_rfl, ?_⟩) HX.out ?_
          · intro X _; go_simp
          try simp only [Act.put, List.setIfInBounds_toArray, List.set_cons_zero, List.set_cons_succ]
          refine wpAnyH_take (i := 38) (oi := ⟨some 59, .pick (.tmp 50) (.const (.bool true)) (.tmp 58), _, _, _, _⟩) (v := .bool false) rfl (by kernel_rfl) (by kernel_rfl) (by kernel_rfl) (fun _ _ _ h => h) (Or.inl ⟨by kernel_rfl, ?_⟩) HX.out ?_
          · intro X _; go_simp
          try simp only [Act.put, List.setIfInBounds_toArray, List.set_cons_zero, List.set_cons_succ]
          refine wpAnyH_done (by kernel_rfl) ?_ _
          go_wp2_with fail
          go_roundw
          case rel => exact ⟨k + 1, by omega, by go_num, HX.out⟩
          case measure => simp [intOf]; omega
        · rw [hp, hq] at hbU hbo
          rw [hp] at hbp hbn
          rw [hq] at hbq
          have HbU := Lib.hid hbU; have Hbp := Lib.hid hbp; have Hbq := Lib.hid hbq; have Hbo := Lib.hid hbo; have Hbn := Lib.hid hbn
          clear hbU hbp hbq hbo hbn hp hq
          go_wp2_with fail
          have HX : Hid (K3 w w.heap.size (w.heap.size + 1) g p q (notP (orP (notP p) (notP q))) wr.drew) := Lib.hid HK.out.drew
          refine wp_region_held (S := fun X => K3 w w.heap.size (w.heap.size + 1) g p q (notP (orP (notP p) (notP q))) X) (by kernel_rfl) ?_
          try (change wpAnyH _ _ _ _ _ _ _ _ (World.drew _))
          generalize wr.drew = X0 at *
          refine wpAnyH_take (i := 0) (oi := ⟨some 21, .load 24 (.tmp 5), _, _, _, _⟩) (v := .agg #[.int .u64 (sw (notP (orP (notP p) (notP q))) 0 : Nat), .int .u64 (sw (notP (orP (notP p) (notP q))) 1 : Nat), .int .u64 (sw (notP (orP (notP p) (notP q))) 2 : Nat), .int .u64 (sw (notP (orP (notP p) (notP q))) 3 : Nat)]) rfl (by kernel_rfl) (by kernel_rfl) (by kernel_rfl) (fun _ _ _ h => h) (Or.inl ⟨by kernel_rfl, ?_⟩) HX.out ?_
          · intro X hS; obtain ⟨_, y0, y1, y2, y3, y4, y5, y6, y7, y8, y9, y10, y11, _, _, _⟩ := hS; go_simp
          try simp only [Act.put, List.setIfInBounds_toArray, List.set_cons_zero, List.set_cons_succ]
          refine wpAnyH_take (i := 1) (oi := ⟨some 22, .move (.tmp 7), _, _, _, _⟩) (v := .int .u8 k) rfl (by kernel_rfl) (by kernel_rfl) (by kernel_rfl) (fun _ _ _ h => h) (Or.inl ⟨by kernel_rfl, ?_⟩) HX.out ?_
          · intro X _; go_simp
          try simp only [Act.put, List.setIfInBounds_toArray, List.set_cons_zero, List.set_cons_succ]
          refine wpAnyH_take (i := 3) (oi := ⟨some 24, .load 24 (.tmp 2), _, _, _, _⟩) (v := .agg #[.int .u64 (sw p 0 : Nat), .int .u64 (sw p 1 : Nat), .int .u64 (sw p 2 : Nat), .int .u64 (sw p 3 : Nat)]) rfl (by kernel_rfl) (by kernel_rfl) (by kernel_rfl) (fun _ _ _ h => h) (Or.inl ⟨by kernel_rfl, ?_⟩) HX.out ?_
          · intro X hS; obtain ⟨_, y0, y1, y2, y3, y4, y5, y6, y7, y8, y9, y10, y11, _, _, _⟩ := hS; go_simp
          try simp only [Act.put, List.setIfInBounds_toArray, List.set_cons_zero, List.set_cons_succ]
          refine wpAnyH_take (i := 4) (oi := ⟨some 25, .move (.tmp 7), _, _, _, _⟩) (v := .int .u8 k) rfl (by kernel_rfl) (by kernel_rfl) (by kernel_rfl) (fun _ _ _ h => h) (Or.inl ⟨by kernel_rfl, ?_⟩) HX.out ?_
          · intro X _; go_simp
          try simp only [Act.put, List.setIfInBounds_toArray, List.set_cons_zero, List.set_cons_succ]
          refine wpAnyH_all (rs := [2]) (by kernel_rfl) (by simp) ?_
          intro ii hii
          rw [List.mem_singleton] at hii
          subst hii
          refine wpOp_step (by rfl) ?_
          intro K' hK'
          go_simp
          go_at_call 21
          refine (HbU.out _).mono ?_
          rintro e X2 ⟨rfl, hbc⟩
          have HX : Hid (K3 w w.heap.size (w.heap.size + 1) g p q (notP (orP (notP p) (notP q))) X2) := Lib.hid (HX.out.nxt hbc)
          clear hbc
          refine hK' _ _ ⟨HX.out, ?_⟩
          clear hK'
          refine wpAnyH_all (rs := [5]) (by kernel_rfl) (by simp) ?_
          intro ii hii
          rw [List.mem_singleton] at hii
          subst hii
          refine wpOp_step (by rfl) ?_
          intro K' hK'
          go_simp
          go_at_call 21
          refine (Hbp.out _).mono ?_
          rintro e X5 ⟨rfl, hbc⟩
          have HX : Hid (K3 w w.heap.size (w.heap.size + 1) g p q (notP (orP (notP p) (notP q))) X5) := Lib.hid (HX.out.nxt hbc)
          clear hbc
          refine hK' _ _ ⟨HX.out, ?_⟩
          clear hK'
          refine wpAnyH_take (i := 6) (oi := ⟨some 27, .move (.tmp 26), _, _, _, _⟩) (v := .bool true) rfl (by kernel_rfl) (by kernel_rfl) (by kernel_rfl) (fun _ _ _ h => h) (Or.inl ⟨by kernel_rfl, ?_⟩) HX.out ?_
          · intro X _; go_simp
          try simp only [Act.put, List.setIfInBounds_toArray, List.set_cons_zero, List.set_cons_succ]
          refine wpAnyH_take (i := 7) (oi := ⟨some 28, .load 24 (.tmp 3), _, _, _, _⟩) (v := .agg #[.int .u64 (sw q 0 : Nat), .int .u64 (sw q 1 : Nat), .int .u64 (sw q 2 : Nat), .int .u64 (sw q 3 : Nat)]) rfl (by kernel_rfl) (by kernel_rfl) (by kernel_rfl) (fun _ _ _ h => h) (Or.inl ⟨by kernel_rfl, ?_⟩) HX.out ?_
          · intro X hS; obtain ⟨_, y0, y1, y2, y3, y4, y5, y6, y7, y8, y9, y10, y11, _, _, _⟩ := hS; go_simp
          try simp only [Act.put, List.setIfInBounds_toArray, List.set_cons_zero, List.set_cons_succ]
          refine wpAnyH_take (i := 8) (oi := ⟨some 29, .move (.tmp 7), _, _, _, _⟩) (v := .int .u8 k) rfl (by kernel_rfl) (by kernel_rfl) (by kernel_rfl) (fun _ _ _ h => h) (Or.inl ⟨by kernel_rfl, ?_⟩) HX.out ?_
          · intro X _; go_simp
          try simp only [Act.put, List.setIfInBounds_toArray, List.set_cons_zero, List.set_cons_succ]
          refine wpAnyH_all (rs := [9]) (by kernel_rfl) (by simp) ?_
          intro ii hii
          rw [List.mem_singleton] at hii
          subst hii
          refine wpOp_step (by rfl) ?_
          intro K' hK'
          go_simp
          go_at_call 21
          refine (Hbq.out _).mono ?_
          rintro e X9 ⟨rfl, hbc⟩
          have HX : Hid (K3 w w.heap.size (w.heap.size + 1) g p q (notP (orP (notP p) (notP q))) X9) := Lib.hid (HX.out.nxt hbc)
          clear hbc
          refine hK' _ _ ⟨HX.out, ?_⟩
          clear hK'
          refine wpAnyH_take (i := 10) (oi := ⟨some 31, .pick (.tmp 27) (.tmp 30) (.const (.bool false)), _, _, _, _⟩) (v := .bool true) rfl (by kernel_rfl) (by kernel_rfl) (by kernel_rfl) (fun _ _ _ h => h) (Or.inl ⟨by kernel_rfl, ?_⟩) HX.out ?_
          · intro X _; go_simp
          try simp only [Act.put, List.setIfInBounds_toArray, List.set_cons_zero, List.set_cons_succ]
          refine wpAnyH_take (i := 11) (oi := ⟨some 32, .binOp .neq 4 (.tmp 23) (.tmp 31) 4, _, _, _, _⟩) (v := .bool false) rfl (by kernel_rfl) (by kernel_rfl) (by kernel_rfl) (fun _ _ _ h => h) (Or.inl ⟨by kernel_rfl, ?_⟩) HX.out ?_
          · intro X _; go_simp
          try simp only [Act.put, List.setIfInBounds_toArray, List.set_cons_zero, List.set_cons_succ]
          refine wpAnyH_take (i := 12) (oi := ⟨some 33, .move (.tmp 32), _, _, _, _⟩) (v := .bool false) rfl (by kernel_rfl) (by kernel_rfl) (by kernel_rfl) (fun _ _ _ h => h) (Or.inl ⟨by kernel_rfl, ?_⟩) HX.out ?_
          · intro X _; go_simp
          try simp only [Act.put, List.setIfInBounds_toArray, List.set_cons_zero, List.set_cons_succ]
          refine wpAnyH_take (i := 13) (oi := ⟨some 34, .load 24 (.tmp 2), _, _, _, _⟩) (v := .agg #[.int .u64 (sw p 0 : Nat), .int .u64 (sw p 1 : Nat), .int .u64 (sw p 2 : Nat), .int .u64 (sw p 3 : Nat)]) rfl (by kernel_rfl) (by kernel_rfl) (by kernel_rfl) (fun _ _ _ h => h) (Or.inl ⟨by kernel_rfl, ?_⟩) HX.out ?_
          · intro X hS; obtain ⟨_, y0, y1, y2, y3, y4, y5, y6, y7, y8, y9, y10, y11, _, _, _⟩ := hS; go_simp
          try simp only [Act.put, List.setIfInBounds_toArray, List.set_cons_zero, List.set_cons_succ]
          refine wpAnyH_take (i := 14) (oi := ⟨some 35, .load 24 (.tmp 3), _, _, _, _⟩) (v := .agg #[.int .u64 (sw q 0 : Nat), .int .u64 (sw q 1 : Nat), .int .u64 (sw q 2 : Nat), .int .u64 (sw q 3 : Nat)]) rfl (by kernel_rfl) (by kernel_rfl) (by kernel_rfl) (fun _ _ _ h => h) (Or.inl ⟨by kernel_rfl, ?_⟩) HX.out ?_
          · intro X hS; obtain ⟨_, y0, y1, y2, y3, y4, y5, y6, y7, y8, y9, y10, y11, _, _, _⟩ := hS; go_simp
          try simp only [Act.put, List.setIfInBounds_toArray, List.set_cons_zero, List.set_cons_succ]
          refine wpAnyH_take (i := 17) (oi := ⟨some 38, .move (.tmp 7), _, _, _, _⟩) (v := .int .u8 k) rfl (by kernel_rfl) (by kernel_rfl) (by kernel_rfl) (fun _ _ _ h => h) (Or.inl ⟨by kernel_rfl, ?_⟩) HX.out ?_
          · intro X _; go_simp
          try simp only [Act.put, List.setIfInBounds_toArray, List.set_cons_zero, List.set_cons_succ]
          refine wpAnyH_take (i := 19) (oi := ⟨some 40, .load 24 (.tmp 2), _, _, _, _⟩) (v := .agg #[.int .u64 (sw p 0 : Nat), .int .u64 (sw p 1 : Nat), .int .u64 (sw p 2 : Nat), .int .u64 (sw p 3 : Nat)]) rfl (by kernel_rfl) (by kernel_rfl) (by kernel_rfl) (fun _ _ _ h => h) (Or.inl ⟨by kernel_rfl, ?_⟩) HX.out ?_
          · intro X hS; obtain ⟨_, y0, y1, y2, y3, y4, y5, y6, y7, y8, y9, y10, y11, _, _, _⟩ := hS; go_simp
          try simp only [Act.put, List.setIfInBounds_toArray, List.set_cons_zero, List.set_cons_succ]
          refine wpAnyH_take (i := 20) (oi := ⟨some 41, .move (.tmp 7), _, _, _, _⟩) (v := .int .u8 k) rfl (by kernel_rfl) (by kernel_rfl) (by kernel_rfl) (fun _ _ _ h => h) (Or.inl ⟨by kernel_rfl, ?_⟩) HX.out ?_
          · intro X _; go_simp
          try simp only [Act.put, List.setIfInBounds_toArray, List.set_cons_zero, List.set_cons_succ]
          refine wpAnyH_all (rs := [15]) (by kernel_rfl) (by simp) ?_
          intro ii hii
          rw [List.mem_singleton] at hii
          subst hii
          refine wpOp_step (by rfl) ?_
          intro K' hK'
          go_simp
          have HXs := HX
          have HX : Hid (K3 w w.heap.size (w.heap.size + 1) g p q (notP (orP (notP p) (notP q))) (X9.alloc (.cells #[.int .u64 (sw p 0 : Nat), .int .u64 (sw p 1 : Nat), .int .u64 (sw p 2 : Nat), .int .u64 (sw p 3 : Nat), .int .u64 (sw q 0 : Nat), .int .u64 (sw q 1 : Nat), .int .u64 (sw q 2 : Nat), .int .u64 (sw q 3 : Nat)] 24))) := Lib.hid (HX.out.alo _)
          refine hK' _ _ ⟨HX.out, ?_⟩
          clear hK'
          refine wpAnyH_all (rs := [16]) (by kernel_rfl) (by simp) ?_
          intro ii hii
          rw [List.mem_singleton] at hii
          subst hii
          refine wpOp_step (by rfl) ?_
          intro K' hK'
          go_simp
          go_at_call 18
          refine (HU2.out _).mono ?_
          rintro e X16 ⟨rfl, hbc⟩
          have HX : Hid (K3 w w.heap.size (w.heap.size + 1) g p q (notP (orP (notP p) (notP q))) X16) := Lib.hid (HXs.out.nxt hbc)
          clear hbc
          unfold SV
          refine hK' _ _ ⟨HX.out, ?_⟩
          clear hK'
          refine wpAnyH_all (rs := [18]) (by kernel_rfl) (by simp) ?_
          intro ii hii
          rw [List.mem_singleton] at hii
          subst hii
          refine wpOp_step (by rfl) ?_
          intro K' hK'
          go_simp
          go_at_call 21
          refine (Hbo.out _).mono ?_
          rintro e X18 ⟨rfl, hbc⟩
          have HX : Hid (K3 w w.heap.size (w.heap.size + 1) g p q (notP (orP (notP p) (notP q))) X18) := Lib.hid (HX.out.nxt hbc)
          clear hbc
          refine hK' _ _ ⟨HX.out, ?_⟩
          clear hK'
          refine wpAnyH_all (rs := [21]) (by kernel_rfl) (by simp) ?_
          intro ii hii
          rw [List.mem_singleton] at hii
          subst hii
          refine wpOp_step (by rfl) ?_
          intro K' hK'
          go_simp
          go_at_call 21
          refine (Hbp.out _).mono ?_
          rintro e X21 ⟨rfl, hbc⟩
          have HX : Hid (K3 w w.heap.size (w.heap.size + 1) g p q (notP (orP (notP p) (notP q))) X21) := Lib.hid (HX.out.nxt hbc)
          clear hbc
          refine hK' _ _ ⟨HX.out, ?_⟩
          clear hK'
          refine wpAnyH_take (i := 22) (oi := ⟨some 43, .move (.tmp 42), _, _, _, _⟩) (v := .bool true) rfl (by kernel_rfl) (by kernel_rfl) (by kernel_rfl) (fun _ _ _ h => h) (Or.inl ⟨by kernel_rfl, ?_⟩) HX.out ?_
          · intro X _; go_simp
          try simp only [Act.put, List.setIfInBounds_toArray, List.set_cons_zero, List.set_cons_succ]
          refine wpAnyH_take (i := 23) (oi := ⟨some 44, .load 24 (.tmp 3), _, _, _, _⟩) (v := undef) rfl (by kernel_rfl) (by kernel_rfl) (by kernel_rfl) (fun _ _ _ h => h) (Or.inr ⟨by kernel_rfl, rfl⟩) HX.out ?_
          try simp only [Act.put, List.setIfInBounds_toArray, List.set_cons_zero, List.set_cons_succ]
          refine wpAnyH_take (i := 24) (oi := ⟨some 45, .move (.tmp 7), _, _, _, _⟩) (v := undef) rfl (by kernel_rfl) (by kernel_rfl) (by kernel_rfl) (fun _ _ _ h => h) (Or.inr ⟨by kernel_rfl, rfl⟩) HX.out ?_
          try simp only [Act.put, List.setIfInBounds_toArray, List.set_cons_zero, List.set_cons_succ]
          refine wpAnyH_take (i := 25) (oi := ⟨some 46, _, _, _, _, _⟩) (v := undef) rfl (by kernel_rfl) (by kernel_rfl) (by kernel_rfl) (fun _ _ _ h => h) (Or.inr ⟨by kernel_rfl, rfl⟩) HX.out ?_
          try simp only [Act.put, List.setIfInBounds_toArray, List.set_cons_zero, List.set_cons_succ]
          refine wpAnyH_take (i := 26) (oi := ⟨some 47, .pick (.tmp 43) (.const (.bool true)) (.tmp 46), _, _, _, _⟩) (v := .bool true) rfl (by kernel_rfl) (by kernel_rfl) (by kernel_rfl) (fun _ _ _ h => h) (Or.inl ⟨by kernel_rfl, ?_⟩) HX.out ?_
          · intro X _; go_simp
          try simp only [Act.put, List.setIfInBounds_toArray, List.set_cons_zero, List.set_cons_succ]
          refine wpAnyH_take (i := 27) (oi := ⟨some 48, .binOp .neq 4 (.tmp 39) (.tmp 47) 4, _, _, _, _⟩) (v := .bool false) rfl (by kernel_rfl) (by kernel_rfl) (by kernel_rfl) (fun _ _ _ h => h) (Or.inl ⟨by kernel_rfl, ?_⟩) HX.out ?_
          · intro X _; go_simp
          try simp only [Act.put, List.setIfInBounds_toArray, List.set_cons_zero, List.set_cons_succ]
          refine wpAnyH_take (i := 28) (oi := ⟨some 49, .pick (.tmp 33) (.const (.bool true)) (.tmp 48), _, _, _, _⟩) (v := .bool false) rfl (by kernel_rfl) (by kernel_rfl) (by kernel_rfl) (fun _ _ _ h => h) (Or.inl ⟨by kernel_rfl, ?_⟩) HX.out ?_
          · intro X _; go_simp
          try simp only [Act.put, List.setIfInBounds_toArray, List.set_cons_zero, List.set_cons_succ]
          refine wpAnyH_take (i := 29) (oi := ⟨some 50, .move (.tmp 49), _, _, _, _⟩) (v := .bool false) rfl (by kernel_rfl) (by kernel_rfl) (by kernel_rfl) (fun _ _ _ h => h) (Or.inl ⟨by kernel_rfl, ?_⟩) HX.out ?_
          · intro X _; go_simp
          try simp only [Act.put, List.setIfInBounds_toArray, List.set_cons_zero, List.set_cons_succ]
          refine wpAnyH_take (i := 30) (oi := ⟨some 51, .load 24 (.tmp 2), _, _, _, _⟩) (v := .agg #[.int .u64 (sw p 0 : Nat), .int .u64 (sw p 1 : Nat), .int .u64 (sw p 2 : Nat), .int .u64 (sw p 3 : Nat)]) rfl (by kernel_rfl) (by kernel_rfl) (by kernel_rfl) (fun _ _ _ h => h) (Or.inl ⟨by kernel_rfl, ?_⟩) HX.out ?_
          · intro X hS; obtain ⟨_, y0, y1, y2, y3, y4, y5, y6, y7, y8, y9, y10, y11, _, _, _⟩ := hS; go_simp
          try simp only [Act.put, List.setIfInBounds_toArray, List.set_cons_zero, List.set_cons_succ]
          refine wpAnyH_take (i := 32) (oi := ⟨some 53, .move (.tmp 7), _, _, _, _⟩) (v := .int .u8 k) rfl (by kernel_rfl) (by kernel_rfl) (by kernel_rfl) (fun _ _ _ h => h) (Or.inl ⟨by kernel_rfl, ?_⟩) HX.out ?_
          · intro X _; go_simp
          try simp only [Act.put, List.setIfInBounds_toArray, List.set_cons_zero, List.set_cons_succ]
          refine wpAnyH_take (i := 34) (oi := ⟨some 55, .load 24 (.tmp 2), _, _, _, _⟩) (v := .agg #[.int .u64 (sw p 0 : Nat), .int .u64 (sw p 1 : Nat), .int .u64 (sw p 2 : Nat), .int .u64 (sw p 3 : Nat)]) rfl (by kernel_rfl) (by kernel_rfl) (by kernel_rfl) (fun _ _ _ h => h) (Or.inl ⟨by kernel_rfl, ?_⟩) HX.out ?_
          · intro X hS; obtain ⟨_, y0, y1, y2, y3, y4, y5, y6, y7, y8, y9, y10, y11, _, _, _⟩ := hS; go_simp
          try simp only [Act.put, List.setIfInBounds_toArray, List.set_cons_zero, List.set_cons_succ]
          refine wpAnyH_take (i := 35) (oi := ⟨some 56, .move (.tmp 7), _, _, _, _⟩) (v := .int .u8 k) rfl (by kernel_rfl) (by kernel_rfl) (by kernel_rfl) (fun _ _ _ h => h) (Or.inl ⟨by kernel_rfl, ?_⟩) HX.out ?_
          · intro X _; go_simp
          try simp only [Act.put, List.setIfInBounds_toArray, List.set_cons_zero, List.set_cons_succ]
          refine wpAnyH_all (rs := [31]) (by kernel_rfl) (by simp) ?_
          intro ii hii
          rw [List.mem_singleton] at hii
          subst hii
          refine wpOp_step (by rfl) ?_
          intro K' hK'
          go_simp
          go_at_call 16
          refine ((N1 _).out).mono ?_
          rintro e X31 ⟨rfl, hbc⟩
          have HX : Hid (K3 w w.heap.size (w.heap.size + 1) g p q (notP (orP (notP p) (notP q))) X31) := Lib.hid (HX.out.nxt hbc)
          clear hbc
          unfold SV
          refine hK' _ _ ⟨HX.out, ?_⟩
          clear hK'
          refine wpAnyH_all (rs := [33]) (by kernel_rfl) (by simp) ?_
          intro ii hii
          rw [List.mem_singleton] at hii
          subst hii
          refine wpOp_step (by rfl) ?_
          intro K' hK'
          go_simp
          go_at_call 21
          refine (Hbn.out _).mono ?_
          rintro e X33 ⟨rfl, hbc⟩
          have HX : Hid (K3 w w.heap.size (w.heap.size + 1) g p q (notP (orP (notP p) (notP q))) X33) := Lib.hid (HX.out.nxt hbc)
          clear hbc
          refine hK' _ _ ⟨HX.out, ?_⟩
          clear hK'
          refine wpAnyH_all (rs := [36]) (by kernel_rfl) (by simp) ?_
          intro ii hii
          rw [List.mem_singleton] at hii
          subst hii
          refine wpOp_step (by rfl) ?_
          intro K' hK'
          go_simp
          go_at_call 21
          refine (Hbp.out _).mono ?_
          rintro e X36 ⟨rfl, hbc⟩
          have HX : Hid (K3 w w.heap.size (w.heap.size + 1) g p q (notP (orP (notP p) (notP q))) X36) := Lib.hid (HX.out.nxt hbc)
          clear hbc
          refine hK' _ _ ⟨HX.out, ?_⟩
          clear hK'
          refine wpAnyH_take (i := 37) (oi := ⟨some 58, .binOp .eql 4 (.tmp 54) (.tmp 57) 4, _, _, _, _⟩) (v := .bool false) rfl (by kernel_rfl) (by kernel_rfl) (by kernel_rfl) (fun _ _ _ h => h) (Or.inl ⟨by kernel_rfl, ?_⟩) HX.out ?_
          · intro X _; go_simp
          try simp only [Act.put, List.setIfInBounds_toArray, List.set_cons_zero, List.set_cons_succ]
          refine wpAnyH_take (i := 38) (oi := ⟨some 59, .pick (.tmp 50) (.const (.bool true)) (.tmp 58), _, _, _, _⟩) (v := .bool false) rfl (by kernel_rfl) (by kernel_rfl) (by kernel_rfl) (fun _ _ _ h => h) (Or.inl ⟨by kernel_rfl, ?_⟩) HX.out ?_
          · intro X _; go_simp
          try simp only [Act.put, List.setIfInBounds_toArray, List.set_cons_zero, List.set_cons_succ]
          refine wpAnyH_done (by kernel_rfl) ?_ _
          go_wp2_with fail
          go_roundw
          case rel => exact ⟨k + 1, by omega, by go_num, HX.out⟩
          case measure => simp [intOf]; omega
      · obtain rfl : k = 256 := by omega
        clear hlt hk
        have Lp : ∀ w, Hid (Calls Tryd.prog 23 #[.agg #[.int .u64 (sw p 0 : Nat), .int .u64 (sw p 1 : Nat), .int .u64 (sw p 2 : Nat), .int .u64 (sw p 3 : Nat)]] w fun e w' => e = .returned (.int .i64 (cntS p : Nat)) ∧ Below w.heap.size w w') := fun w => Lib.hid (len_any p w)
        have Ln : ∀ w, Hid (Calls Tryd.prog 23 #[.agg #[.int .u64 (sw (notP p) 0 : Nat), .int .u64 (sw (notP p) 1 : Nat), .int .u64 (sw (notP p) 2 : Nat), .int .u64 (sw (notP p) 3 : Nat)]] w fun e w' => e = .returned (.int .i64 (cntS (notP p) : Nat)) ∧ Below w.heap.size w w') := fun w => Lib.hid (len_any (notP p) w)
        have LU : ∀ w, Hid (Calls Tryd.prog 23 #[.agg #[.int .u64 (sw (notP (orP (notP p) (notP q))) 0 : Nat), .int .u64 (sw (notP (orP (notP p) (notP q))) 1 : Nat), .int .u64 (sw (notP (orP (notP p) (notP q))) 2 : Nat), .int .u64 (sw (notP (orP (notP p) (notP q))) 3 : Nat)]] w fun e w' => e = .returned (.int .i64 (cntS (notP (orP (notP p) (notP q))) : Nat)) ∧ Below w.heap.size w w') := fun w => Lib.hid (len_any (notP (orP (notP p) (notP q))) w)
        have LO : ∀ w, Hid (Calls Tryd.prog 23 #[.agg #[.int .u64 (sw (orP p q) 0 : Nat), .int .u64 (sw (orP p q) 1 : Nat), .int .u64 (sw (orP p q) 2 : Nat), .int .u64 (sw (orP p q) 3 : Nat)]] w fun e w' => e = .returned (.int .i64 (cntS (orP p q) : Nat)) ∧ Below w.heap.size w w') := fun w => Lib.hid (len_any (orP p q) w)
        have Lq : ∀ w, Hid (Calls Tryd.prog 23 #[.agg #[.int .u64 (sw q 0 : Nat), .int .u64 (sw q 1 : Nat), .int .u64 (sw q 2 : Nat), .int .u64 (sw q 3 : Nat)]] w fun e w' => e = .returned (.int .i64 (cntS q : Nat)) ∧ Below w.heap.size w w') := fun w => Lib.hid (len_any q w)
        have N4 : ∀ w, Hid (Calls Tryd.prog 16 #[.agg #[.int .u64 (sw (notP p) 0 : Nat), .int .u64 (sw (notP p) 1 : Nat), .int .u64 (sw (notP p) 2 : Nat), .int .u64 (sw (notP p) 3 : Nat)]] w fun e w' => e = .returned (SV (notP (notP p))) ∧ Below w.heap.size w w') := fun w => Lib.hid (not_any (notP p) w)
        have U3 : Hid (∀ (w : World) (b : Nat), Row4 w b 0 p → Row4 w b 4 q → b < w.heap.size → Calls Tryd.prog 18 #[.slice (some ⟨b, 0, none⟩) 2 2] w fun e w' => e = .returned (SV (orP p q)) ∧ Below w.heap.size w w') := Lib.hid fun w b h1 h2 h3 => union2_any _ _ b 2 w h1 h2 h3
        have HBY : Hid (∀ w', Below w.heap.size w w' → Calls Tryd.prog 25 #[.agg #[.int .u64 (sw p 0 : Nat), .int .u64 (sw p 1 : Nat), .int .u64 (sw p 2 : Nat), .int .u64 (sw p 3 : Nat)]] w' fun e w'' => ∃ v, e = .returned v ∧ w''.ownsRow w'.heap.size 5 1 v (byL p 256).length ((byL p 256).map (Value.int .u8)) ∧ Below w'.heap.size w' w'') := Lib.hid fun w' h => bytes_any p w' (HT.out.below h)
        have hbL := byL_byt p 256 (Nat.le_refl _)
        have hlL := byL_len p 256
        have HOF : ∀ w, Hid (Calls Tryd.prog 13 #[.string (ofBys (byL p 256))] w fun e w' => e = .returned (SV (mem (byL p 256))) ∧ Below w.heap.size w w') := fun w => Lib.hid (by have := of_any (ofBys (byL p 256)) w (by rw [ofBys_size]; omega); rwa [bys_ofBys hbL] at this)
        have HAW : ∀ w, Hid (Calls Tryd.prog 26 #[] w fun e w' => e = .returned (.bool true) ∧ Below w.heap.size w w') := fun w => Lib.hid (awake5_any w)
        have q1 := eq_yesM (notP (notP p)) p (fun c _ => by simp [notP])
        have q2 := eq_yesM (mem (byL p 256)) p (fun c hc => mem_byL p c hc)
        have HBYT : Hid (Byt (byL p 256) ∧ (byL p 256).length ≤ 9223372036854775807) := Lib.hid ⟨hbL, by omega⟩
        clear hbL hlL
        have s1 : cntS p + cntS (notP p) = 256 := cnt_not p
        have s2 : cntS (notP (orP (notP p) (notP q))) + cntS (orP p q) = cntS p + cntS q := by rw [← cnt_both p q]; congr 1; exact congrArg cntS (funext fun c => mor_u p q c)
        have b1 : cntS q ≤ 256 := by have := cnt_not q; omega
        generalize cntS (notP (orP (notP p) (notP q))) = nu at *
        generalize cntS (orP p q) = no at *
        generalize cntS (notP p) = nn at *
        generalize cntS p = np at *
        generalize cntS q = nq at *
        have t1 : (np : Int) + (nn : Int) = 256 := by omega
        have t1w : IntKind.i64.wrap ((np : Int) + (nn : Int)) = 256 := by rw [IntKind.wrap_i64]; omega
        have t2w : IntKind.i64.wrap ((nu : Int) + (no : Int)) = (nu : Int) + (no : Int) := by rw [IntKind.wrap_i64]; omega
        have t3w : IntKind.i64.wrap ((np : Int) + (nq : Int)) = (np : Int) + (nq : Int) := by rw [IntKind.wrap_i64]; omega
        have t4 : (((nu : Int) + (no : Int)) == ((np : Int) + (nq : Int))) = true := by simp; omega
        have T1 := Lib.hid t1; have T1W := Lib.hid t1w; have T2W := Lib.hid t2w; have T3W := Lib.hid t3w; have T4 := Lib.hid t4
        have Q1 := Lib.hid q1; have Q2 := Lib.hid q2
        have hnu : (nu : Int) ≤ 600 := by omega
        have hno : (no : Int) ≤ 600 := by omega
        have hnp : (np : Int) ≤ 256 := by omega
        have hnq : (nq : Int) ≤ 256 := by omega
        clear t1 t1w t2w t3w t4 s1 s2 q1 q2 b1
        go_wp2_with fail
        have HX : Hid (K3 w w.heap.size (w.heap.size + 1) g p q (notP (orP (notP p) (notP q))) wr.drew) := Lib.hid HK.out.drew
        refine wp_region_held (S := fun X => K3 w w.heap.size (w.heap.size + 1) g p q (notP (orP (notP p) (notP q))) X) (by kernel_rfl) ?_
        try (change wpAnyH _ _ _ _ _ _ _ _ (World.drew _))
        generalize wr.drew = X0 at *
        refine wpAnyH_take (i := 0) (oi := ⟨some 60, .load 24 (.tmp 2), _, _, _, _⟩) (v := .agg #[.int .u64 (sw p 0 : Nat), .int .u64 (sw p 1 : Nat), .int .u64 (sw p 2 : Nat), .int .u64 (sw p 3 : Nat)]) rfl (by kernel_rfl) (by kernel_rfl) (by kernel_rfl) (fun _ _ _ h => h) (Or.inl ⟨by kernel_rfl, ?_⟩) HX.out ?_
        · intro X hS; obtain ⟨_, y0, y1, y2, y3, y4, y5, y6, y7, y8, y9, y10, y11, _, _, _⟩ := hS; go_simp
        try simp only [Act.put, List.setIfInBounds_toArray, List.set_cons_zero, List.set_cons_succ]
        refine wpAnyH_take (i := 3) (oi := ⟨some 63, .load 24 (.tmp 2), _, _, _, _⟩) (v := .agg #[.int .u64 (sw p 0 : Nat), .int .u64 (sw p 1 : Nat), .int .u64 (sw p 2 : Nat), .int .u64 (sw p 3 : Nat)]) rfl (by kernel_rfl) (by kernel_rfl) (by kernel_rfl) (fun _ _ _ h => h) (Or.inl ⟨by kernel_rfl, ?_⟩) HX.out ?_
        · intro X hS; obtain ⟨_, y0, y1, y2, y3, y4, y5, y6, y7, y8, y9, y10, y11, _, _, _⟩ := hS; go_simp
        try simp only [Act.put, List.setIfInBounds_toArray, List.set_cons_zero, List.set_cons_succ]
        refine wpAnyH_all (rs := [1]) (by kernel_rfl) (by simp) ?_
        intro ii hii
        rw [List.mem_singleton] at hii
        subst hii
        refine wpOp_step (by rfl) ?_
        intro K' hK'
        go_simp
        go_at_call 16
        refine ((N1 _).out).mono ?_
        rintro e X1 ⟨rfl, hbc⟩
        have HX : Hid (K3 w w.heap.size (w.heap.size + 1) g p q (notP (orP (notP p) (notP q))) X1) := Lib.hid (HX.out.nxt hbc)
        clear hbc
        unfold SV
        refine hK' _ _ ⟨HX.out, ?_⟩
        clear hK'
        refine wpAnyH_all (rs := [2]) (by kernel_rfl) (by simp) ?_
        intro ii hii
        rw [List.mem_singleton] at hii
        subst hii
        refine wpOp_step (by rfl) ?_
        intro K' hK'
        go_simp
        go_at_call 16
        refine ((N4 _).out).mono ?_
        rintro e X2 ⟨rfl, hbc⟩
        have HX : Hid (K3 w w.heap.size (w.heap.size + 1) g p q (notP (orP (notP p) (notP q))) X2) := Lib.hid (HX.out.nxt hbc)
        clear hbc
        unfold SV
        refine hK' _ _ ⟨HX.out, ?_⟩
        clear hK'
        refine wpAnyH_take (i := 4) (oi := ⟨some 64, .binOp .eql 24 (.tmp 62) (.tmp 63) 24, _, _, _, _⟩) (v := .bool true) rfl (by kernel_rfl) (by kernel_rfl) (by kernel_rfl) (fun _ _ _ h => h) (Or.inl ⟨by kernel_rfl, ?_⟩) HX.out ?_
        · intro X _; have f := Q1.out; go_simp
        try simp only [Act.put, List.setIfInBounds_toArray, List.set_cons_zero, List.set_cons_succ]
        refine wpAnyH_take (i := 5) (oi := ⟨some 65, .move (.tmp 64), _, _, _, _⟩) (v := .bool true) rfl (by kernel_rfl) (by kernel_rfl) (by kernel_rfl) (fun _ _ _ h => h) (Or.inl ⟨by kernel_rfl, ?_⟩) HX.out ?_
        · intro X _; go_simp
        try simp only [Act.put, List.setIfInBounds_toArray, List.set_cons_zero, List.set_cons_succ]
        refine wpAnyH_take (i := 6) (oi := ⟨some 66, .load 24 (.tmp 2), _, _, _, _⟩) (v := .agg #[.int .u64 (sw p 0 : Nat), .int .u64 (sw p 1 : Nat), .int .u64 (sw p 2 : Nat), .int .u64 (sw p 3 : Nat)]) rfl (by kernel_rfl) (by kernel_rfl) (by kernel_rfl) (fun _ _ _ h => h) (Or.inl ⟨by kernel_rfl, ?_⟩) HX.out ?_
        · intro X hS; obtain ⟨_, y0, y1, y2, y3, y4, y5, y6, y7, y8, y9, y10, y11, _, _, _⟩ := hS; go_simp
        try simp only [Act.put, List.setIfInBounds_toArray, List.set_cons_zero, List.set_cons_succ]
        refine wpAnyH_take (i := 8) (oi := ⟨some 68, .load 24 (.tmp 2), _, _, _, _⟩) (v := .agg #[.int .u64 (sw p 0 : Nat), .int .u64 (sw p 1 : Nat), .int .u64 (sw p 2 : Nat), .int .u64 (sw p 3 : Nat)]) rfl (by kernel_rfl) (by kernel_rfl) (by kernel_rfl) (fun _ _ _ h => h) (Or.inl ⟨by kernel_rfl, ?_⟩) HX.out ?_
        · intro X hS; obtain ⟨_, y0, y1, y2, y3, y4, y5, y6, y7, y8, y9, y10, y11, _, _, _⟩ := hS; go_simp
        try simp only [Act.put, List.setIfInBounds_toArray, List.set_cons_zero, List.set_cons_succ]
        refine wpAnyH_all (rs := [7]) (by kernel_rfl) (by simp) ?_
        intro ii hii
        rw [List.mem_singleton] at hii
        subst hii
        refine wpOp_step (by rfl) ?_
        intro K' hK'
        go_simp
        go_at_call 23
        refine ((Lp _).out).mono ?_
        rintro e X7 ⟨rfl, hbc⟩
        have HX : Hid (K3 w w.heap.size (w.heap.size + 1) g p q (notP (orP (notP p) (notP q))) X7) := Lib.hid (HX.out.nxt hbc)
        clear hbc
        refine hK' _ _ ⟨HX.out, ?_⟩
        clear hK'
        refine wpAnyH_all (rs := [9]) (by kernel_rfl) (by simp) ?_
        intro ii hii
        rw [List.mem_singleton] at hii
        subst hii
        refine wpOp_step (by rfl) ?_
        intro K' hK'
        go_simp
        go_at_call 16
        refine ((N1 _).out).mono ?_
        rintro e X9 ⟨rfl, hbc⟩
        have HX : Hid (K3 w w.heap.size (w.heap.size + 1) g p q (notP (orP (notP p) (notP q))) X9) := Lib.hid (HX.out.nxt hbc)
        clear hbc
        unfold SV
        refine hK' _ _ ⟨HX.out, ?_⟩
        clear hK'
        refine wpAnyH_all (rs := [10]) (by kernel_rfl) (by simp) ?_
        intro ii hii
        rw [List.mem_singleton] at hii
        subst hii
        refine wpOp_step (by rfl) ?_
        intro K' hK'
        go_simp
        go_at_call 23
        refine ((Ln _).out).mono ?_
        rintro e X10 ⟨rfl, hbc⟩
        have HX : Hid (K3 w w.heap.size (w.heap.size + 1) g p q (notP (orP (notP p) (notP q))) X10) := Lib.hid (HX.out.nxt hbc)
        clear hbc
        refine hK' _ _ ⟨HX.out, ?_⟩
        clear hK'
        refine wpAnyH_take (i := 11) (oi := ⟨some 71, .binOp .add 3 (.tmp 67) (.tmp 70) 3, _, _, _, _⟩) (v := .int .i64 256) rfl (by kernel_rfl) (by kernel_rfl) (by kernel_rfl) (fun _ _ _ h => h) (Or.inl ⟨by kernel_rfl, ?_⟩) HX.out ?_
        · intro X _; have f := T1.out; have f' : IntKind.i64.wrap 256 = 256 := rfl; go_simp
        try simp only [Act.put, List.setIfInBounds_toArray, List.set_cons_zero, List.set_cons_succ]
        refine wpAnyH_take (i := 12) (oi := ⟨some 72, .binOp .eql 3 (.tmp 71) (.const (.int .i64 256)) 3, _, _, _, _⟩) (v := .bool true) rfl (by kernel_rfl) (by kernel_rfl) (by kernel_rfl) (fun _ _ _ h => h) (Or.inl ⟨by kernel_rfl, ?_⟩) HX.out ?_
        · intro X _; go_simp
        try simp only [Act.put, List.setIfInBounds_toArray, List.set_cons_zero, List.set_cons_succ]
        refine wpAnyH_take (i := 13) (oi := ⟨some 73, .pick (.tmp 65) (.tmp 72) (.const (.bool false)), _, _, _, _⟩) (v := .bool true) rfl (by kernel_rfl) (by kernel_rfl) (by kernel_rfl) (fun _ _ _ h => h) (Or.inl ⟨by kernel_rfl, ?_⟩) HX.out ?_
        · intro X _; go_simp
        try simp only [Act.put, List.setIfInBounds_toArray, List.set_cons_zero, List.set_cons_succ]
        refine wpAnyH_take (i := 14) (oi := ⟨some 74, .move (.tmp 73), _, _, _, _⟩) (v := .bool true) rfl (by kernel_rfl) (by kernel_rfl) (by kernel_rfl) (fun _ _ _ h => h) (Or.inl ⟨by kernel_rfl, ?_⟩) HX.out ?_
        · intro X _; go_simp
        try simp only [Act.put, List.setIfInBounds_toArray, List.set_cons_zero, List.set_cons_succ]
        refine wpAnyH_take (i := 15) (oi := ⟨some 75, .load 24 (.tmp 2), _, _, _, _⟩) (v := .agg #[.int .u64 (sw p 0 : Nat), .int .u64 (sw p 1 : Nat), .int .u64 (sw p 2 : Nat), .int .u64 (sw p 3 : Nat)]) rfl (by kernel_rfl) (by kernel_rfl) (by kernel_rfl) (fun _ _ _ h => h) (Or.inl ⟨by kernel_rfl, ?_⟩) HX.out ?_
        · intro X hS; obtain ⟨_, y0, y1, y2, y3, y4, y5, y6, y7, y8, y9, y10, y11, _, _, _⟩ := hS; go_simp
        try simp only [Act.put, List.setIfInBounds_toArray, List.set_cons_zero, List.set_cons_succ]
        refine wpAnyH_take (i := 19) (oi := ⟨some 79, .load 24 (.tmp 2), _, _, _, _⟩) (v := .agg #[.int .u64 (sw p 0 : Nat), .int .u64 (sw p 1 : Nat), .int .u64 (sw p 2 : Nat), .int .u64 (sw p 3 : Nat)]) rfl (by kernel_rfl) (by kernel_rfl) (by kernel_rfl) (fun _ _ _ h => h) (Or.inl ⟨by kernel_rfl, ?_⟩) HX.out ?_
        · intro X hS; obtain ⟨_, y0, y1, y2, y3, y4, y5, y6, y7, y8, y9, y10, y11, _, _, _⟩ := hS; go_simp
        try simp only [Act.put, List.setIfInBounds_toArray, List.set_cons_zero, List.set_cons_succ]
        refine wpAnyH_all (rs := [16]) (by kernel_rfl) (by simp) ?_
        intro ii hii
        rw [List.mem_singleton] at hii
        subst hii
        refine wpOp_step (by rfl) ?_
        intro K' hK'
        go_simp
        go_at_call 25
        refine (HBY.out _ HX.out.1).mono ?_
        rintro e X16 ⟨v, rfl, hown, hbc⟩
        have hcv := conv_string (slOwnedM hown HBYT.out.1 HBYT.out.2)
        have HX : Hid (K3 w w.heap.size (w.heap.size + 1) g p q (notP (orP (notP p) (notP q))) X16) := Lib.hid (HX.out.nxt hbc)
        clear hbc hown
        refine hK' _ _ ⟨HX.out, ?_⟩
        clear hK'
        refine wpAnyH_all (rs := [17]) (by kernel_rfl) (by simp) ?_
        intro ii hii
        rw [List.mem_singleton] at hii
        subst hii
        refine wpOp_step (by rfl) ?_
        intro K' hK'
        go_simp
        refine hK' _ _ ⟨HX.out, ?_⟩
        clear hK' hcv
        refine wpAnyH_all (rs := [18]) (by kernel_rfl) (by simp) ?_
        intro ii hii
        rw [List.mem_singleton] at hii
        subst hii
        refine wpOp_step (by rfl) ?_
        intro K' hK'
        go_simp
        go_at_call 13
        refine ((HOF _).out).mono ?_
        rintro e X18 ⟨rfl, hbc⟩
        have HX : Hid (K3 w w.heap.size (w.heap.size + 1) g p q (notP (orP (notP p) (notP q))) X18) := Lib.hid (HX.out.nxt hbc)
        clear hbc
        unfold SV
        refine hK' _ _ ⟨HX.out, ?_⟩
        clear hK'
        refine wpAnyH_take (i := 20) (oi := ⟨some 80, .binOp .eql 24 (.tmp 78) (.tmp 79) 24, _, _, _, _⟩) (v := .bool true) rfl (by kernel_rfl) (by kernel_rfl) (by kernel_rfl) (fun _ _ _ h => h) (Or.inl ⟨by kernel_rfl, ?_⟩) HX.out ?_
        · intro X _; have f := Q2.out; go_simp
        try simp only [Act.put, List.setIfInBounds_toArray, List.set_cons_zero, List.set_cons_succ]
        refine wpAnyH_take (i := 21) (oi := ⟨some 81, .pick (.tmp 74) (.tmp 80) (.const (.bool false)), _, _, _, _⟩) (v := .bool true) rfl (by kernel_rfl) (by kernel_rfl) (by kernel_rfl) (fun _ _ _ h => h) (Or.inl ⟨by kernel_rfl, ?_⟩) HX.out ?_
        · intro X _; go_simp
        try simp only [Act.put, List.setIfInBounds_toArray, List.set_cons_zero, List.set_cons_succ]
        refine wpAnyH_take (i := 22) (oi := ⟨some 82, .move (.tmp 81), _, _, _, _⟩) (v := .bool true) rfl (by kernel_rfl) (by kernel_rfl) (by kernel_rfl) (fun _ _ _ h => h) (Or.inl ⟨by kernel_rfl, ?_⟩) HX.out ?_
        · intro X _; go_simp
        try simp only [Act.put, List.setIfInBounds_toArray, List.set_cons_zero, List.set_cons_succ]
        refine wpAnyH_take (i := 23) (oi := ⟨some 83, .load 24 (.tmp 5), _, _, _, _⟩) (v := .agg #[.int .u64 (sw (notP (orP (notP p) (notP q))) 0 : Nat), .int .u64 (sw (notP (orP (notP p) (notP q))) 1 : Nat), .int .u64 (sw (notP (orP (notP p) (notP q))) 2 : Nat), .int .u64 (sw (notP (orP (notP p) (notP q))) 3 : Nat)]) rfl (by kernel_rfl) (by kernel_rfl) (by kernel_rfl) (fun _ _ _ h => h) (Or.inl ⟨by kernel_rfl, ?_⟩) HX.out ?_
        · intro X hS; obtain ⟨_, y0, y1, y2, y3, y4, y5, y6, y7, y8, y9, y10, y11, _, _, _⟩ := hS; go_simp
        try simp only [Act.put, List.setIfInBounds_toArray, List.set_cons_zero, List.set_cons_succ]
        refine wpAnyH_take (i := 25) (oi := ⟨some 85, .load 24 (.tmp 2), _, _, _, _⟩) (v := .agg #[.int .u64 (sw p 0 : Nat), .int .u64 (sw p 1 : Nat), .int .u64 (sw p 2 : Nat), .int .u64 (sw p 3 : Nat)]) rfl (by kernel_rfl) (by kernel_rfl) (by kernel_rfl) (fun _ _ _ h => h) (Or.inl ⟨by kernel_rfl, ?_⟩) HX.out ?_
        · intro X hS; obtain ⟨_, y0, y1, y2, y3, y4, y5, y6, y7, y8, y9, y10, y11, _, _, _⟩ := hS; go_simp
        try simp only [Act.put, List.setIfInBounds_toArray, List.set_cons_zero, List.set_cons_succ]
        refine wpAnyH_take (i := 26) (oi := ⟨some 86, .load 24 (.tmp 3), _, _, _, _⟩) (v := .agg #[.int .u64 (sw q 0 : Nat), .int .u64 (sw q 1 : Nat), .int .u64 (sw q 2 : Nat), .int .u64 (sw q 3 : Nat)]) rfl (by kernel_rfl) (by kernel_rfl) (by kernel_rfl) (fun _ _ _ h => h) (Or.inl ⟨by kernel_rfl, ?_⟩) HX.out ?_
        · intro X hS; obtain ⟨_, y0, y1, y2, y3, y4, y5, y6, y7, y8, y9, y10, y11, _, _, _⟩ := hS; go_simp
        try simp only [Act.put, List.setIfInBounds_toArray, List.set_cons_zero, List.set_cons_succ]
        refine wpAnyH_take (i := 31) (oi := ⟨some 91, .load 24 (.tmp 2), _, _, _, _⟩) (v := .agg #[.int .u64 (sw p 0 : Nat), .int .u64 (sw p 1 : Nat), .int .u64 (sw p 2 : Nat), .int .u64 (sw p 3 : Nat)]) rfl (by kernel_rfl) (by kernel_rfl) (by kernel_rfl) (fun _ _ _ h => h) (Or.inl ⟨by kernel_rfl, ?_⟩) HX.out ?_
        · intro X hS; obtain ⟨_, y0, y1, y2, y3, y4, y5, y6, y7, y8, y9, y10, y11, _, _, _⟩ := hS; go_simp
        try simp only [Act.put, List.setIfInBounds_toArray, List.set_cons_zero, List.set_cons_succ]
        refine wpAnyH_take (i := 33) (oi := ⟨some 93, .load 24 (.tmp 3), _, _, _, _⟩) (v := .agg #[.int .u64 (sw q 0 : Nat), .int .u64 (sw q 1 : Nat), .int .u64 (sw q 2 : Nat), .int .u64 (sw q 3 : Nat)]) rfl (by kernel_rfl) (by kernel_rfl) (by kernel_rfl) (fun _ _ _ h => h) (Or.inl ⟨by kernel_rfl, ?_⟩) HX.out ?_
        · intro X hS; obtain ⟨_, y0, y1, y2, y3, y4, y5, y6, y7, y8, y9, y10, y11, _, _, _⟩ := hS; go_simp
        try simp only [Act.put, List.setIfInBounds_toArray, List.set_cons_zero, List.set_cons_succ]
        refine wpAnyH_all (rs := [24, 27]) (by kernel_rfl) (by simp) ?_
        intro ii hii
        simp only [List.mem_cons, List.not_mem_nil, or_false] at hii
        rcases hii with rfl | rfl
        · skip
          refine wpOp_step (by rfl) ?_
          intro K' hK'
          go_simp
          go_at_call 23
          refine ((LU _).out).mono ?_
          rintro e X24 ⟨rfl, hbc⟩
          have HX : Hid (K3 w w.heap.size (w.heap.size + 1) g p q (notP (orP (notP p) (notP q))) X24) := Lib.hid (HX.out.nxt hbc)
          clear hbc
          refine hK' _ _ ⟨HX.out, ?_⟩
          clear hK'
          refine wpAnyH_all (rs := [27]) (by kernel_rfl) (by simp) ?_
          intro ii hii
          rw [List.mem_singleton] at hii
          subst hii
          refine wpOp_step (by rfl) ?_
          intro K' hK'
          go_simp
          obtain ⟨X27, hV⟩ : ∃ V, V = X24.alloc (.cells #[.int .u64 (sw p 0 : Nat), .int .u64 (sw p 1 : Nat), .int .u64 (sw p 2 : Nat), .int .u64 (sw p 3 : Nat), .int .u64 (sw q 0 : Nat), .int .u64 (sw q 1 : Nat), .int .u64 (sw q 2 : Nat), .int .u64 (sw q 3 : Nat)] 24) := ⟨_, rfl⟩
          rw [← hV]
          have R1 : Hid (Row4 X27 X24.heap.size 0 p) := Lib.hid (by rw [hV]; exact (row4_two _ _ _ _).1)
          have R2 : Hid (Row4 X27 X24.heap.size 4 q) := Lib.hid (by rw [hV]; exact (row4_two _ _ _ _).2)
          have RZ : X24.heap.size < X27.heap.size := by rw [hV]; simp
          have HX : Hid (K3 w w.heap.size (w.heap.size + 1) g p q (notP (orP (notP p) (notP q))) X27) := Lib.hid (by rw [hV]; exact HX.out.alo _)
          clear hV
          refine hK' _ _ ⟨HX.out, ?_⟩
          clear hK'
          refine wpAnyH_all (rs := [28]) (by kernel_rfl) (by simp) ?_
          intro ii hii
          rw [List.mem_singleton] at hii
          subst hii
          refine wpOp_step (by rfl) ?_
          intro K' hK'
          go_simp
          go_at_call 18
          refine (U3.out _ _ R1.out R2.out RZ).mono ?_
          rintro e X28 ⟨rfl, hbc⟩
          have HX : Hid (K3 w w.heap.size (w.heap.size + 1) g p q (notP (orP (notP p) (notP q))) X28) := Lib.hid (HX.out.nxt hbc)
          clear hbc
          unfold SV
          refine hK' _ _ ⟨HX.out, ?_⟩
          clear hK'
          refine wpAnyH_all (rs := [29]) (by kernel_rfl) (by simp) ?_
          intro ii hii
          rw [List.mem_singleton] at hii
          subst hii
          refine wpOp_step (by rfl) ?_
          intro K' hK'
          go_simp
          go_at_call 23
          refine ((LO _).out).mono ?_
          rintro e X29 ⟨rfl, hbc⟩
          have HX : Hid (K3 w w.heap.size (w.heap.size + 1) g p q (notP (orP (notP p) (notP q))) X29) := Lib.hid (HX.out.nxt hbc)
          clear hbc
          refine hK' _ _ ⟨HX.out, ?_⟩
          clear hK'
          refine wpAnyH_take (i := 30) (oi := ⟨some 90, .binOp .add 3 (.tmp 84) (.tmp 89) 3, _, _, _, _⟩) (v := .int .i64 ((nu : Int) + (no : Int))) rfl (by kernel_rfl) (by kernel_rfl) (by kernel_rfl) (fun _ _ _ h => h) (Or.inl ⟨by kernel_rfl, ?_⟩) HX.out ?_
          · intro X _; have f := T2W.out; go_simp
          try simp only [Act.put, List.setIfInBounds_toArray, List.set_cons_zero, List.set_cons_succ]
          refine wpAnyH_all (rs := [32]) (by kernel_rfl) (by simp) ?_
          intro ii hii
          rw [List.mem_singleton] at hii
          subst hii
          refine wpOp_step (by rfl) ?_
          intro K' hK'
          go_simp
          go_at_call 23
          refine ((Lp _).out).mono ?_
          rintro e X32 ⟨rfl, hbc⟩
          have HX : Hid (K3 w w.heap.size (w.heap.size + 1) g p q (notP (orP (notP p) (notP q))) X32) := Lib.hid (HX.out.nxt hbc)
          clear hbc
          refine hK' _ _ ⟨HX.out, ?_⟩
          clear hK'
          refine wpAnyH_all (rs := [34]) (by kernel_rfl) (by simp) ?_
          intro ii hii
          rw [List.mem_singleton] at hii
          subst hii
          refine wpOp_step (by rfl) ?_
          intro K' hK'
          go_simp
          go_at_call 23
          refine ((Lq _).out).mono ?_
          rintro e X34 ⟨rfl, hbc⟩
          have HX : Hid (K3 w w.heap.size (w.heap.size + 1) g p q (notP (orP (notP p) (notP q))) X34) := Lib.hid (HX.out.nxt hbc)
          clear hbc
          refine hK' _ _ ⟨HX.out, ?_⟩
          clear hK'
          refine wpAnyH_take (i := 35) (oi := ⟨some 95, .binOp .add 3 (.tmp 92) (.tmp 94) 3, _, _, _, _⟩) (v := .int .i64 ((np : Int) + (nq : Int))) rfl (by kernel_rfl) (by kernel_rfl) (by kernel_rfl) (fun _ _ _ h => h) (Or.inl ⟨by kernel_rfl, ?_⟩) HX.out ?_
          · intro X _; have f := T3W.out; go_simp
          try simp only [Act.put, List.setIfInBounds_toArray, List.set_cons_zero, List.set_cons_succ]
          refine wpAnyH_take (i := 36) (oi := ⟨some 96, .binOp .eql 3 (.tmp 90) (.tmp 95) 3, _, _, _, _⟩) (v := .bool true) rfl (by kernel_rfl) (by kernel_rfl) (by kernel_rfl) (fun _ _ _ h => h) (Or.inl ⟨by kernel_rfl, ?_⟩) HX.out ?_
          · intro X _; have f := T4.out; go_simp
          try simp only [Act.put, List.setIfInBounds_toArray, List.set_cons_zero, List.set_cons_succ]
          refine wpAnyH_take (i := 37) (oi := ⟨some 97, .pick (.tmp 82) (.tmp 96) (.const (.bool false)), _, _, _, _⟩) (v := .bool true) rfl (by kernel_rfl) (by kernel_rfl) (by kernel_rfl) (fun _ _ _ h => h) (Or.inl ⟨by kernel_rfl, ?_⟩) HX.out ?_
          · intro X _; go_simp
          try simp only [Act.put, List.setIfInBounds_toArray, List.set_cons_zero, List.set_cons_succ]
          refine wpAnyH_take (i := 38) (oi := ⟨some 98, .move (.tmp 97), _, _, _, _⟩) (v := .bool true) rfl (by kernel_rfl) (by kernel_rfl) (by kernel_rfl) (fun _ _ _ h => h) (Or.inl ⟨by kernel_rfl, ?_⟩) HX.out ?_
          · intro X _; go_simp
          try simp only [Act.put, List.setIfInBounds_toArray, List.set_cons_zero, List.set_cons_succ]
          refine wpAnyH_all (rs := [39]) (by kernel_rfl) (by simp) ?_
          intro ii hii
          rw [List.mem_singleton] at hii
          subst hii
          refine wpOp_step (by rfl) ?_
          intro K' hK'
          go_simp
          go_at_call 26
          refine ((HAW _).out).mono ?_
          rintro e X39 ⟨rfl, hbc⟩
          have HX : Hid (K3 w w.heap.size (w.heap.size + 1) g p q (notP (orP (notP p) (notP q))) X39) := Lib.hid (HX.out.nxt hbc)
          clear hbc
          refine hK' _ _ ⟨HX.out, ?_⟩
          clear hK'
          refine wpAnyH_take (i := 40) (oi := ⟨some 100, .pick (.tmp 98) (.tmp 99) (.const (.bool false)), _, _, _, _⟩) (v := .bool true) rfl (by kernel_rfl) (by kernel_rfl) (by kernel_rfl) (fun _ _ _ h => h) (Or.inl ⟨by kernel_rfl, ?_⟩) HX.out ?_
          · intro X _; go_simp
          try simp only [Act.put, List.setIfInBounds_toArray, List.set_cons_zero, List.set_cons_succ]
          refine wpAnyH_take (i := 41) (oi := ⟨some 4, .assign (.tmp 100), _, _, _, _⟩) (v := .bool true) rfl (by kernel_rfl) (by kernel_rfl) (by kernel_rfl) (fun _ _ _ h => h) (Or.inl ⟨by kernel_rfl, ?_⟩) HX.out ?_
          · intro X _; go_simp
          try simp only [Act.put, List.setIfInBounds_toArray, List.set_cons_zero, List.set_cons_succ]
          refine wpAnyH_done (by kernel_rfl) ?_ _
          go_wp2
          go_ret
          exact ⟨rfl, HX.out.1⟩
        · skip
          refine wpOp_step (by rfl) ?_
          intro K' hK'
          go_simp
          obtain ⟨X27, hV⟩ : ∃ V, V = X18.alloc (.cells #[.int .u64 (sw p 0 : Nat), .int .u64 (sw p 1 : Nat), .int .u64 (sw p 2 : Nat), .int .u64 (sw p 3 : Nat), .int .u64 (sw q 0 : Nat), .int .u64 (sw q 1 : Nat), .int .u64 (sw q 2 : Nat), .int .u64 (sw q 3 : Nat)] 24) := ⟨_, rfl⟩
          rw [← hV]
          have R1 : Hid (Row4 X27 X18.heap.size 0 p) := Lib.hid (by rw [hV]; exact (row4_two _ _ _ _).1)
          have R2 : Hid (Row4 X27 X18.heap.size 4 q) := Lib.hid (by rw [hV]; exact (row4_two _ _ _ _).2)
          have RZ : X18.heap.size < X27.heap.size := by rw [hV]; simp
          have HX : Hid (K3 w w.heap.size (w.heap.size + 1) g p q (notP (orP (notP p) (notP q))) X27) := Lib.hid (by rw [hV]; exact HX.out.alo _)
          clear hV
          refine hK' _ _ ⟨HX.out, ?_⟩
          clear hK'
          refine wpAnyH_all (rs := [24]) (by kernel_rfl) (by simp) ?_
          intro ii hii
          rw [List.mem_singleton] at hii
          subst hii
          refine wpOp_step (by rfl) ?_
          intro K' hK'
          go_simp
          go_at_call 23
          refine ((LU _).out).mono ?_
          rintro e X24 ⟨rfl, hbc⟩
          have HX : Hid (K3 w w.heap.size (w.heap.size + 1) g p q (notP (orP (notP p) (notP q))) X24) := Lib.hid (HX.out.nxt hbc)
          have R1 := Lib.hid (row4_keep R1.out hbc RZ)
          have R2 := Lib.hid (row4_keep R2.out hbc RZ)
          have RZ := Nat.lt_of_lt_of_le RZ hbc.size
          clear hbc
          refine hK' _ _ ⟨HX.out, ?_⟩
          clear hK'
          refine wpAnyH_all (rs := [28]) (by kernel_rfl) (by simp) ?_
          intro ii hii
          rw [List.mem_singleton] at hii
          subst hii
          refine wpOp_step (by rfl) ?_
          intro K' hK'
          go_simp
          go_at_call 18
          refine (U3.out _ _ R1.out R2.out RZ).mono ?_
          rintro e X28 ⟨rfl, hbc⟩
          have HX : Hid (K3 w w.heap.size (w.heap.size + 1) g p q (notP (orP (notP p) (notP q))) X28) := Lib.hid (HX.out.nxt hbc)
          clear hbc
          unfold SV
          refine hK' _ _ ⟨HX.out, ?_⟩
          clear hK'
          refine wpAnyH_all (rs := [29]) (by kernel_rfl) (by simp) ?_
          intro ii hii
          rw [List.mem_singleton] at hii
          subst hii
          refine wpOp_step (by rfl) ?_
          intro K' hK'
          go_simp
          go_at_call 23
          refine ((LO _).out).mono ?_
          rintro e X29 ⟨rfl, hbc⟩
          have HX : Hid (K3 w w.heap.size (w.heap.size + 1) g p q (notP (orP (notP p) (notP q))) X29) := Lib.hid (HX.out.nxt hbc)
          clear hbc
          refine hK' _ _ ⟨HX.out, ?_⟩
          clear hK'
          refine wpAnyH_take (i := 30) (oi := ⟨some 90, .binOp .add 3 (.tmp 84) (.tmp 89) 3, _, _, _, _⟩) (v := .int .i64 ((nu : Int) + (no : Int))) rfl (by kernel_rfl) (by kernel_rfl) (by kernel_rfl) (fun _ _ _ h => h) (Or.inl ⟨by kernel_rfl, ?_⟩) HX.out ?_
          · intro X _; have f := T2W.out; go_simp
          try simp only [Act.put, List.setIfInBounds_toArray, List.set_cons_zero, List.set_cons_succ]
          refine wpAnyH_all (rs := [32]) (by kernel_rfl) (by simp) ?_
          intro ii hii
          rw [List.mem_singleton] at hii
          subst hii
          refine wpOp_step (by rfl) ?_
          intro K' hK'
          go_simp
          go_at_call 23
          refine ((Lp _).out).mono ?_
          rintro e X32 ⟨rfl, hbc⟩
          have HX : Hid (K3 w w.heap.size (w.heap.size + 1) g p q (notP (orP (notP p) (notP q))) X32) := Lib.hid (HX.out.nxt hbc)
          clear hbc
          refine hK' _ _ ⟨HX.out, ?_⟩
          clear hK'
          refine wpAnyH_all (rs := [34]) (by kernel_rfl) (by simp) ?_
          intro ii hii
          rw [List.mem_singleton] at hii
          subst hii
          refine wpOp_step (by rfl) ?_
          intro K' hK'
          go_simp
          go_at_call 23
          refine ((Lq _).out).mono ?_
          rintro e X34 ⟨rfl, hbc⟩
          have HX : Hid (K3 w w.heap.size (w.heap.size + 1) g p q (notP (orP (notP p) (notP q))) X34) := Lib.hid (HX.out.nxt hbc)
          clear hbc
          refine hK' _ _ ⟨HX.out, ?_⟩
          clear hK'
          refine wpAnyH_take (i := 35) (oi := ⟨some 95, .binOp .add 3 (.tmp 92) (.tmp 94) 3, _, _, _, _⟩) (v := .int .i64 ((np : Int) + (nq : Int))) rfl (by kernel_rfl) (by kernel_rfl) (by kernel_rfl) (fun _ _ _ h => h) (Or.inl ⟨by kernel_rfl, ?_⟩) HX.out ?_
          · intro X _; have f := T3W.out; go_simp
          try simp only [Act.put, List.setIfInBounds_toArray, List.set_cons_zero, List.set_cons_succ]
          refine wpAnyH_take (i := 36) (oi := ⟨some 96, .binOp .eql 3 (.tmp 90) (.tmp 95) 3, _, _, _, _⟩) (v := .bool true) rfl (by kernel_rfl) (by kernel_rfl) (by kernel_rfl) (fun _ _ _ h => h) (Or.inl ⟨by kernel_rfl, ?_⟩) HX.out ?_
          · intro X _; have f := T4.out; go_simp
          try simp only [Act.put, List.setIfInBounds_toArray, List.set_cons_zero, List.set_cons_succ]
          refine wpAnyH_take (i := 37) (oi := ⟨some 97, .pick (.tmp 82) (.tmp 96) (.const (.bool false)), _, _, _, _⟩) (v := .bool true) rfl (by kernel_rfl) (by kernel_rfl) (by kernel_rfl) (fun _ _ _ h => h) (Or.inl ⟨by kernel_rfl, ?_⟩) HX.out ?_
          · intro X _; go_simp
          try simp only [Act.put, List.setIfInBounds_toArray, List.set_cons_zero, List.set_cons_succ]
          refine wpAnyH_take (i := 38) (oi := ⟨some 98, .move (.tmp 97), _, _, _, _⟩) (v := .bool true) rfl (by kernel_rfl) (by kernel_rfl) (by kernel_rfl) (fun _ _ _ h => h) (Or.inl ⟨by kernel_rfl, ?_⟩) HX.out ?_
          · intro X _; go_simp
          try simp only [Act.put, List.setIfInBounds_toArray, List.set_cons_zero, List.set_cons_succ]
          refine wpAnyH_all (rs := [39]) (by kernel_rfl) (by simp) ?_
          intro ii hii
          rw [List.mem_singleton] at hii
          subst hii
          refine wpOp_step (by rfl) ?_
          intro K' hK'
          go_simp
          go_at_call 26
          refine ((HAW _).out).mono ?_
          rintro e X39 ⟨rfl, hbc⟩
          have HX : Hid (K3 w w.heap.size (w.heap.size + 1) g p q (notP (orP (notP p) (notP q))) X39) := Lib.hid (HX.out.nxt hbc)
          clear hbc
          refine hK' _ _ ⟨HX.out, ?_⟩
          clear hK'
          refine wpAnyH_take (i := 40) (oi := ⟨some 100, .pick (.tmp 98) (.tmp 99) (.const (.bool false)), _, _, _, _⟩) (v := .bool true) rfl (by kernel_rfl) (by kernel_rfl) (by kernel_rfl) (fun _ _ _ h => h) (Or.inl ⟨by kernel_rfl, ?_⟩) HX.out ?_
          · intro X _; go_simp
          try simp only [Act.put, List.setIfInBounds_toArray, List.set_cons_zero, List.set_cons_succ]
          refine wpAnyH_take (i := 41) (oi := ⟨some 4, .assign (.tmp 100), _, _, _, _⟩) (v := .bool true) rfl (by kernel_rfl) (by kernel_rfl) (by kernel_rfl) (fun _ _ _ h => h) (Or.inl ⟨by kernel_rfl, ?_⟩) HX.out ?_
          · intro X _; go_simp
          try simp only [Act.put, List.setIfInBounds_toArray, List.set_cons_zero, List.set_cons_succ]
          refine wpAnyH_done (by kernel_rfl) ?_ _
          go_wp2
          go_ret
          exact ⟨rfl, HX.out.1⟩
end Go.Proofs.YtllhpahbpeemaaaDoor
