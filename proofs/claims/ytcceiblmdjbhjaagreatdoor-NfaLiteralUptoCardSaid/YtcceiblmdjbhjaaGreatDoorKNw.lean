/- KNw: several texts in one (kmerge.py). -/
import Derived.Test.YtcceiblmdjbhjaaGreatDoorNfPl
import Derived.Test.YtcceiblmdjbhjaaGreatDoorKNb
import Derived.Test.YtcceiblmdjbhjaaGreatDoorKRs
import Derived.Deep.LoopGhost
/- weight: how heavy a tree is. -/
namespace Go.Proofs.YtcceiblmdjbhjaaGreatDoor
open Go.RowKit

/-- What weight tells. -/
def WtQ (k : Nat) (w : World) (x : Ending) (w' : World) : Prop := x = .returned (.int .i64 ((min k 4001 : Nat) : Int)) ∧ Below w.heap.size w w'
def WtOk (N : Nat) : Prop := ∀ (S : Nat → Prop) (nd : Nd) (kv : Value) (w : World), nd.nn ≤ N → nd.nn ≤ 1100 → nd.Ok → nd.In w S kv → Calls Tryz.prog 37 #[nd.v kv] w (WtQ nd.W w)
theorem kid_one' {S : Nat → Prop} {w : World} {n x : Nd} (hl : n.kids = fo [x]) {ka : Option Addr} {km kc : Nat} (hin : n.In w S (.slice ka km kc)) :
    km = 1 ∧ ∃ kv kb cur, (∃ a m c, kv = .slice a m c) ∧ x.In w S kv ∧ ka = some ⟨kb, 0, none⟩ ∧ S kb ∧ w.heap[kb]? = some (.cells cur 29 (0, 0)) ∧ ∀ i u, (x.cells kv)[i]? = some u → cur[0 + i]? = some u := by
  obtain ⟨h1, kvs, h2, h3, h4⟩ := kids_vs hl hin
  have e : kidAt [x] 0 = x := rfl
  rcases h4 with h4 | ⟨b, cur, h5, h6, h7, h8⟩
  · cases h4
  · refine ⟨h1, kvs 0, b, cur, h2 0, by have := h3 (by simp) 0; rwa [e] at this, h5, h6, h7, fun i u hu => ?_⟩
    have := h8 0 (by simp) i u (by rw [e]; exact hu)
    rwa [Nat.zero_mul] at this
theorem sat_rep (m k : Nat) : min (m * min k 4001 + 1) 4001 = min (m * k + 1) 4001 := by
  by_cases h : k ≤ 4001
  · rw [Nat.min_eq_left h]
  · rw [Nat.min_eq_right (by omega : 4001 ≤ k)]
    cases m with
    | zero => simp
    | succ m =>
      rw [Nat.succ_mul, Nat.succ_mul]
      omega
theorem sat_max (m k d : Nat) : min (m * min k 4001 + d) 4001 = min (m * k + d) 4001 := by
  by_cases h : k ≤ 4001
  · rw [Nat.min_eq_left h]
  · rw [Nat.min_eq_right (by omega : 4001 ≤ k)]
    cases m with
    | zero => simp
    | succ m =>
      rw [Nat.succ_mul, Nat.succ_mul]
      omega

set_option maxRecDepth 100000 in
set_option maxHeartbeats 8000000 in
theorem weightRep_any (N : Nat) (ih : WtOk N) (S : Nat → Prop) (kd : Int) (p : Nat → Bool) (mn mx gp : Int) (x : Nd) (ka : Option Addr) (km kc : Nat) (w : World) (h0 : 0 ≤ mn) (hx : mx = -1 ∨ mn ≤ mx) (hmn : mn ≤ 255) (hmx : mx ≤ 255) (hN : x.nn ≤ N) (hn : x.nn ≤ 1100) (hok : x.Ok) (hin : Nd.In w S ⟨kd, p, mn, mx, gp, fo [x]⟩ (.slice ka km kc)) :
    Calls Tryz.prog 72 #[Nd.v ⟨kd, p, mn, mx, gp, fo [x]⟩ (.slice ka km kc)] w (WtQ (if mx < 0 then (mn.toNat + 1) * x.W + 1 else mx.toNat * x.W + (mx.toNat - mn.toNat)) w) := by
  obtain ⟨rfl, kv, kb, cur, hkv, hxi, rfl, hkb, hcur, hcl⟩ := kid_one' rfl hin
  obtain ⟨cs, hcs⟩ : ∃ cs, cs = x.cells kv := ⟨_, rfl⟩
  rw [← hcs] at hcl
  obtain ⟨W1, hW1⟩ : ∃ W1, W1 = w.alloc (.cells #[.int .i64 kd, .int .u64 (sw p 0 : Nat), .int .u64 (sw p 1 : Nat), .int .u64 (sw p 2 : Nat), .int .u64 (sw p 3 : Nat), .int .i64 mn, .int .i64 mx, .int .i64 gp, .slice (some ⟨kb, 0, none⟩) 1 kc] 29) := ⟨_, rfl⟩
  have hb1 : Below w.heap.size w W1 := by rw [hW1]; exact (Below.refl _ _).alloc (Nat.le_refl _) _
  have hr1 : W1.heap[w.heap.size]? = some (.cells #[.int .i64 kd, .int .u64 (sw p 0 : Nat), .int .u64 (sw p 1 : Nat), .int .u64 (sw p 2 : Nat), .int .u64 (sw p 3 : Nat), .int .i64 mn, .int .i64 mx, .int .i64 gp, .slice (some ⟨kb, 0, none⟩) 1 kc] 29 (0, 0)) := by rw [hW1]; exact alloc_last w _
  have HK := Lib.hid (ih S x kv W1 hN hn hok (hxi.below hb1))
  unfold WtQ Nd.v at HK
  rw [← hcs] at HK
  have HRW : Hid (W1.heap[kb]? = some (.cells cur 29 (0, 0))) := Lib.hid (blk_below hcur hb1)
  have HCL := Lib.hid hcl
  have HL9 : Hid (cs.length = 9) := Lib.hid (by rw [hcs]; exact Nd.cells_len _ _)
  have HR1 := Lib.hid hr1
  have HB1 := Lib.hid hb1
  obtain ⟨r0, r1, r2, r3, r4, r5, r6, r7, r8, rz⟩ := cells9s hr1
  obtain ⟨q, hq⟩ : ∃ q, q = min x.W 4001 := ⟨_, rfl⟩
  have hq4 : q ≤ 4001 := by rw [hq]; exact Nat.min_le_right _ _
  have HQ1 : Hid (min ((mn.toNat + 1) * q + 1) 4001 = min ((mn.toNat + 1) * x.W + 1) 4001) := Lib.hid (by rw [hq]; exact sat_rep _ _)
  have HQ2 : Hid (min (mx.toNat * q + (mx.toNat - mn.toNat)) 4001 = min (mx.toNat * x.W + (mx.toNat - mn.toNat)) 4001) := Lib.hid (by rw [hq]; exact sat_max _ _ _)
  rw [← hq] at HK
  have HWE := Lib.hid hW1
  clear hcs hcl hW1 hb1 hr1 hxi hcur hq ih hin hkv
  unfold WtQ
  by_cases hm : mx < 0
  · obtain rfl : mx = -1 := by omega
    rw [if_pos hm]
    obtain ⟨m, hmm⟩ : ∃ m, m = mn.toNat := ⟨_, rfl⟩
    rw [← hmm] at HQ1 ⊢
    obtain rfl : mn = (m : Int) := by omega
    have hmul : (m + 1) * q ≤ 256 * 4001 := Nat.mul_le_mul (by omega) hq4
    have HPL := Lib.hid (plus_any ((m + 1) * q) 1 (by omega))
    have hcast : (((m + 1) * q : Nat) : Int) = ((m : Int) + 1) * (q : Int) := by rw [Int.natCast_mul]; rfl
    have hb1 : ((m : Int) + 1) * (q : Int) ≤ 1024256 := by rw [← hcast]; omega
    have hb2 : 0 ≤ ((m : Int) + 1) * (q : Int) := by rw [← hcast]; omega
    rw [hcast] at HPL
    clear hm hmm hcast hmul
    unfold Nd.v Nd.cells
    go_enter Tryz.func72, Tryz.ntmps72
    go_upto_region 1 with fail
    rw [← HWE.out]
    go_wp2_with (first | (refine wpList_load_part rfl 29 _ rfl kb 0 rfl _ cur cs (0, 0) _ HRW.out HCL.out Tryz.underlying29 rfl (by rw [HL9.out]; exact nre_size) ?_) | fail)
    refine HK.out.mono ?_
    rintro r W2 ⟨rfl, hb⟩
    have HB2 := Lib.hid (HB1.out.trans (hb.mono HB1.out.size))
    clear r0 r1 r2 r3 r4 r5 r6 r7 r8 rz
    obtain ⟨r0, r1, r2, r3, r4, r5, r6, r7, r8, rz⟩ := cells9s (blk_below HR1.out hb)
    clear hb
    go_wp2_with fail
    refine (HPL.out W2).mono ?_
    rintro r W3 ⟨rfl, rfl⟩
    rw [HQ1.out]
    go_wp2
    go_ret
    exact ⟨rfl, HB2.out⟩
  · rw [if_neg hm]
    obtain ⟨m, hmm⟩ : ∃ m, m = mn.toNat := ⟨_, rfl⟩
    obtain ⟨k, hkk⟩ : ∃ k, k = mx.toNat := ⟨_, rfl⟩
    rw [← hmm, ← hkk] at HQ2 ⊢
    obtain rfl : mn = (m : Int) := by omega
    obtain rfl : mx = (k : Int) := by omega
    have hmul : k * q ≤ 255 * 4001 := Nat.mul_le_mul (by omega) hq4
    have HPL := Lib.hid (plus_any (k * q) (k - m) (by omega))
    have hcast : ((k * q : Nat) : Int) = (k : Int) * (q : Int) := Int.natCast_mul _ _
    have hsub : ((k - m : Nat) : Int) = (k : Int) - (m : Int) := by omega
    have hb1 : (k : Int) * (q : Int) ≤ 1020255 := by rw [← hcast]; omega
    have hb2 : 0 ≤ (k : Int) * (q : Int) := by rw [← hcast]; omega
    have hkm : (m : Int) ≤ (k : Int) := by omega
    have hk5 : (k : Int) ≤ 255 := hmx
    have hkn : ¬ (k : Int) < 0 := hm
    rw [hcast, hsub] at HPL
    clear hmm hcast hmul hsub hm hkk
    unfold Nd.v Nd.cells
    go_enter Tryz.func72, Tryz.ntmps72
    go_upto_region 1 with fail
    rw [← HWE.out]
    go_wp2_with (first | (refine wpList_load_part rfl 29 _ rfl kb 0 rfl _ cur cs (0, 0) _ HRW.out HCL.out Tryz.underlying29 rfl (by rw [HL9.out]; exact nre_size) ?_) | fail)
    refine HK.out.mono ?_
    rintro r W2 ⟨rfl, hb⟩
    have HB2 := Lib.hid (HB1.out.trans (hb.mono HB1.out.size))
    clear r0 r1 r2 r3 r4 r5 r6 r7 r8 rz
    obtain ⟨r0, r1, r2, r3, r4, r5, r6, r7, r8, rz⟩ := cells9s (blk_below HR1.out hb)
    clear hb
    go_wp2_with fail
    refine (HPL.out W2).mono ?_
    rintro r W3 ⟨rfl, rfl⟩
    rw [HQ2.out]
    go_wp2
    go_ret
    exact ⟨rfl, HB2.out⟩
end Go.Proofs.YtcceiblmdjbhjaaGreatDoor
/- weight: any tree (gen_nfwu.py). -/
namespace Go.Proofs.YtcceiblmdjbhjaaGreatDoor
open Go.RowKit

theorem wTake : ∀ (l : List Nd) (k : Nat) (h : k < l.length), (fo (l.take (k + 1))).W = (fo (l.take k)).W + (l[k]).W
  | n :: r, 0, _ => by show n.W + 0 = 0 + n.W; omega
  | n :: r, k + 1, h => by
    have := wTake r k (by simpa using h)
    show n.W + (fo (r.take (k + 1))).W = n.W + (fo (r.take k)).W + (r[k]'(by simpa using h)).W
    omega
/-- What the loop has when so many kids are told. -/
def wF (l : List Nd) (d k : Nat) : Nat := min ((fo (l.take k)).W + d) 4001
theorem wF_zero (l : List Nd) {d : Nat} (h : d ≤ 4001) : wF l d 0 = d := by
  unfold wF
  rw [List.take_zero]
  show min (0 + d) 4001 = d
  omega
theorem wF_succ (l : List Nd) (d k : Nat) (h : k < l.length) : min (wF l d k + min (l[k]).W 4001) 4001 = wF l d (k + 1) := by
  unfold wF
  rw [wTake l k h]
  omega
theorem wF_all (l : List Nd) (d : Nat) : wF l d l.length = min ((fo l).W + d) 4001 := by
  unfold wF
  rw [List.take_length]
theorem wF_le (l : List Nd) (d k : Nat) : wF l d k ≤ 4001 := Nat.min_le_right _ _

set_option maxRecDepth 100000 in
set_option maxHeartbeats 8000000 in
theorem weight_leaf (kd : Int) (p : Nat → Bool) (mn mx gp : Int) (kids : Fo) (kv : Value) (w : World) (hk : kd = 1 ∨ kd = 2 ∨ kd = 3) (hkv : ∃ a m c, kv = .slice a m c) :
    Calls Tryz.prog 37 #[Nd.v ⟨kd, p, mn, mx, gp, kids⟩ kv] w (WtQ 1 w) := by
  obtain ⟨ka, km, kc, rfl⟩ := hkv
  obtain ⟨W, hW⟩ : ∃ W, W = w.alloc (.cells #[.int .i64 kd, .int .u64 (sw p 0 : Nat), .int .u64 (sw p 1 : Nat), .int .u64 (sw p 2 : Nat), .int .u64 (sw p 3 : Nat), .int .i64 mn, .int .i64 mx, .int .i64 gp, .slice ka km kc] 29) := ⟨_, rfl⟩
  have hb : Below w.heap.size w W := by rw [hW]; exact (Below.refl _ _).alloc (Nat.le_refl _) _
  have hr1 : W.heap[w.heap.size]? = some (.cells #[.int .i64 kd, .int .u64 (sw p 0 : Nat), .int .u64 (sw p 1 : Nat), .int .u64 (sw p 2 : Nat), .int .u64 (sw p 3 : Nat), .int .i64 mn, .int .i64 mx, .int .i64 gp, .slice ka km kc] 29 (0, 0)) := by rw [hW]; exact alloc_last w _
  have HB := Lib.hid hb
  have HWE := Lib.hid hW
  obtain ⟨r0, r1, r2, r3, r4, r5, r6, r7, r8, rz⟩ := cells9s hr1
  clear hb hr1 hW
  have hmin : ((min 1 4001 : Nat) : Int) = 1 := rfl
  unfold WtQ
  rw [hmin]
  unfold Nd.v Nd.cells
  rcases hk with rfl | rfl | rfl
  all_goals
    go_enter Tryz.func37, Tryz.ntmps37
    go_upto_region 1 with fail
    rw [← HWE.out]
    go_wp2
    go_ret
    exact ⟨rfl, HB.out⟩

set_option maxRecDepth 100000 in
set_option maxHeartbeats 8000000 in
theorem weight_rep (p : Nat → Bool) (mn mx gp : Int) (kids : Fo) (kv : Value) (w : World) (k : Nat) (hkv : ∃ a m c, kv = .slice a m c)
    (hc : ∀ X, Below w.heap.size w X → Calls Tryz.prog 72 #[Nd.v ⟨6, p, mn, mx, gp, kids⟩ kv] X (WtQ k X)) :
    Calls Tryz.prog 37 #[Nd.v ⟨6, p, mn, mx, gp, kids⟩ kv] w (WtQ k w) := by
  obtain ⟨ka, km, kc, rfl⟩ := hkv
  obtain ⟨W, hW⟩ : ∃ W, W = w.alloc (.cells #[.int .i64 6, .int .u64 (sw p 0 : Nat), .int .u64 (sw p 1 : Nat), .int .u64 (sw p 2 : Nat), .int .u64 (sw p 3 : Nat), .int .i64 mn, .int .i64 mx, .int .i64 gp, .slice ka km kc] 29) := ⟨_, rfl⟩
  have hb : Below w.heap.size w W := by rw [hW]; exact (Below.refl _ _).alloc (Nat.le_refl _) _
  have hr1 : W.heap[w.heap.size]? = some (.cells #[.int .i64 6, .int .u64 (sw p 0 : Nat), .int .u64 (sw p 1 : Nat), .int .u64 (sw p 2 : Nat), .int .u64 (sw p 3 : Nat), .int .i64 mn, .int .i64 mx, .int .i64 gp, .slice ka km kc] 29 (0, 0)) := by rw [hW]; exact alloc_last w _
  have HB := Lib.hid hb
  have HB1 := Lib.hid hr1
  have HWE := Lib.hid hW
  have HX := Lib.hid (hc W hb)
  obtain ⟨r0, r1, r2, r3, r4, r5, r6, r7, r8, rz⟩ := cells9s hr1
  clear hb hr1 hW hc
  obtain ⟨q, hq⟩ : ∃ q : Nat, q = min k 4001 := ⟨_, rfl⟩
  unfold WtQ at HX ⊢
  rw [← hq] at HX ⊢
  clear hq
  unfold Nd.v Nd.cells at HX ⊢
  go_enter Tryz.func37, Tryz.ntmps37
  go_upto_region 1 with fail
  rw [← HWE.out]
  go_wp2_with (first | (refine wpList_load_row rfl 29 _ rfl w.heap.size rfl _ _ (0, 0) _ HB1.out Tryz.underlying29 rfl nre_size ?_) | fail)
  refine HX.out.mono ?_
  rintro x w1 ⟨rfl, hb1⟩
  have HC1 := Lib.hid hb1
  clear hb1
  go_wp2
  go_ret
  exact ⟨rfl, HB.out.trans (HC1.out.mono HB.out.size)⟩

set_option maxRecDepth 100000 in
set_option maxHeartbeats 16000000 in
theorem weight_alt (N : Nat) (ih : WtOk N) (S : Nat → Prop) (p : Nat → Bool) (mn mx gp : Int) (l : List Nd) (ka : Option Addr) (km kc : Nat) (w : World) (hN : (fo l).nn ≤ N) (hn : (fo l).nn ≤ 1100) (hok : (fo l).Ok) (hin : Nd.In w S ⟨5, p, mn, mx, gp, fo l⟩ (.slice ka km kc)) (hl0 : 0 < l.length) :
    Calls Tryz.prog 37 #[Nd.v ⟨5, p, mn, mx, gp, fo l⟩ (.slice ka km kc)] w (WtQ ((fo l).W + (l.length - 1)) w) := by
  obtain ⟨hkm, kvs, hks, hki, hkc⟩ := kids_vs (n := ⟨5, p, mn, mx, gp, fo l⟩) (l := l) rfl hin
  subst hkm
  have hll := Fo.len_nn (fo l)
  rw [fo_len] at hll
  have HCALL : Hid (∀ k (h : k < l.length) X, Below w.heap.size w X → Calls Tryz.prog 37 #[(l[k]).v (kvs k)] X (WtQ (l[k]).W X)) := Lib.hid (fun k h X hX => by
    have h1 := nn_at l k h
    have h2 := hki (by omega) k
    rw [kidAt_lt h] at h2
    exact ih S _ _ X (by omega) (by omega) (ok_at l hok k h) (h2.below hX))
  have HKC : Hid (∀ k (h : k < l.length), ∃ b cur, ka = some ⟨b, 0, none⟩ ∧ b < w.heap.size ∧ w.heap[b]? = some (.cells cur 29 (0, 0)) ∧ ∀ i u, ((l[k]).cells (kvs k))[i]? = some u → cur[k * 9 + i]? = some u) := Lib.hid (fun k h => by
    rcases hkc with h0 | ⟨b, cur, h5, h6, h7, h8⟩
    · omega
    · refine ⟨b, cur, h5, lt_blkB h7, h7, fun i u hu => h8 k h i u ?_⟩
      rw [kidAt_lt h]
      exact hu)
  have HKS := Lib.hid hks
  obtain ⟨F, hF⟩ : ∃ F, F = wF l ((l.length - 1)) := ⟨_, rfl⟩
  have HF0 : Hid (F 0 = (l.length - 1)) := Lib.hid (by rw [hF]; exact wF_zero l (by omega))
  have HFS : Hid (∀ k (h : k < l.length), min (F k + min (l[k]).W 4001) 4001 = F (k + 1)) := Lib.hid (fun k h => by rw [hF]; exact wF_succ l _ k h)
  have HFA : Hid (min ((fo l).W + (l.length - 1)) 4001 = F l.length) := Lib.hid (by rw [hF]; exact (wF_all l _).symm)
  have hFL : ∀ k, F k ≤ 4001 := fun k => by rw [hF]; exact wF_le l _ k
  have hDL : (l.length - 1) ≤ 1100 := by omega
  clear hF hkc hks hki hin hok ih
  obtain ⟨W, hW⟩ : ∃ W, W = w.alloc (.cells #[.int .i64 5, .int .u64 (sw p 0 : Nat), .int .u64 (sw p 1 : Nat), .int .u64 (sw p 2 : Nat), .int .u64 (sw p 3 : Nat), .int .i64 mn, .int .i64 mx, .int .i64 gp, .slice ka l.length kc] 29) := ⟨_, rfl⟩
  have hb : Below w.heap.size w W := by rw [hW]; exact (Below.refl _ _).alloc (Nat.le_refl _) _
  have hr1 : W.heap[w.heap.size]? = some (.cells #[.int .i64 5, .int .u64 (sw p 0 : Nat), .int .u64 (sw p 1 : Nat), .int .u64 (sw p 2 : Nat), .int .u64 (sw p 3 : Nat), .int .i64 mn, .int .i64 mx, .int .i64 gp, .slice ka l.length kc] 29 (0, 0)) := by rw [hW]; exact alloc_last w _
  have HB := Lib.hid hb
  have HWE := Lib.hid hW
  obtain ⟨r0, r1, r2, r3, r4, r5, r6, r7, r8, rz⟩ := cells9s hr1
  clear hb hr1 hW
  unfold WtQ
  rw [HFA.out]
  unfold Nd.v Nd.cells
  go_enter Tryz.func37, Tryz.ntmps37
  go_upto_region 1 with fail
  rw [← HWE.out]
  clear HWE
  go_upto_region 12 with fail
  have hsub : (l.length : Int) - 1 = ((l.length - 1 : Nat) : Int) := by omega
  rw [hsub]
  clear r0 r1 r2 r3 r4 r5 r6 r7 r8 rz
  go_loopg [3, 25] l.length (fun gh s3 s25 X => ∃ k : Nat, gh = l.length - k ∧ k ≤ l.length ∧ s3 = .int .i64 (F k : Nat) ∧ s25 = .int .i64 (k : Nat) ∧ Aside (Below w.heap.size w X))
  case atStart => exact ⟨0, by omega, Nat.zero_le _, by rw [HF0.out], rfl, HB.out⟩
  case round =>
    obtain ⟨k, hgh, hk, rfl, rfl, hal⟩ := hrel
    have HGH := Lib.hid hgh
    have HBK := Lib.hid hal.out
    clear hal hgh
    by_cases hlt : k < l.length
    · have hlti : (k : Int) < (l.length : Int) := by omega
      have hk0 : (0 : Int) ≤ (k : Int) := by omega
      obtain ⟨kb, cur, rfl, hkb, hcur, hcl⟩ := HKC.out k hlt
      have hX : wr.heap[kb]? = some (.cells cur 29 (0, 0)) := (HBK.out.block kb hkb).trans hcur
      have hgk := lt_blkB hX
      obtain ⟨q, hq⟩ : ∃ q : Nat, q = min (l[k]).W 4001 := ⟨_, rfl⟩
      have hq4 : q ≤ 4001 := by rw [hq]; exact Nat.min_le_right _ _
      have HCX : Hid (∀ X, Below w.heap.size w X → Calls Tryz.prog 37 #[(l[k]).v (kvs k)] X (fun r w' => r = .returned (.int .i64 (q : Nat)) ∧ Below X.heap.size X w')) := Lib.hid (fun X hX => by rw [hq]; exact HCALL.out k hlt X hX)
      have HFQ : Hid (min (F k + q) 4001 = F (k + 1)) := Lib.hid (by rw [hq]; exact HFS.out k hlt)
      obtain ⟨cs, hcs⟩ : ∃ cs, cs = (l[k]).cells (kvs k) := ⟨_, rfl⟩
      have HC1 : Hid (cs.toArray.all (·.oneCell') = true) := Lib.hid (by rw [hcs]; have := nd_one9 l[k] (kvs k) (HKS.out k); simpa using this)
      have HL9 : Hid (cs.length = 9) := Lib.hid (by rw [hcs]; exact Nd.cells_len _ _)
      have HCL : Hid (∀ i u, cs[i]? = some u → cur[k * 9 + i]? = some u) := Lib.hid (by rw [hcs]; exact hcl)
      unfold Nd.v at HCX
      rw [← hcs] at HCX
      have HX := Lib.hid hX
      obtain ⟨W5, hW5⟩ : ∃ W5, W5 = wr.alloc (.cells zero9 29) := ⟨_, rfl⟩
      have HT5 : Hid (W5.heap[wr.heap.size]? = some (.cells zero9 29 (0, 0))) := Lib.hid (by rw [hW5]; exact alloc_last _ _)
      obtain ⟨W6, hW6⟩ : ∃ W6, W6 = W5.setRow wr.heap.size cs.toArray := ⟨_, rfl⟩
      have hb6 : Below wr.heap.size wr W6 := by rw [hW6, hW5]; exact below_setRow ((Below.refl _ _).alloc (Nat.le_refl _) _) (Nat.le_refl _) _
      have HT6 : Hid (W6.heap[wr.heap.size]? = some (.cells cs.toArray 29 (0, 0))) := Lib.hid (by rw [hW6]; exact setRow_selfR HT5.out _)
      have HB6 : Hid (Below w.heap.size w W6) := Lib.hid (HBK.out.trans (hb6.mono HBK.out.size))
      have hz6 : wr.heap.size < W6.heap.size := lt_blkB HT6.out
      have HW5 := Lib.hid hW5
      have HW6 := Lib.hid hW6
      have hFk := hFL k
      have HPL := Lib.hid (plus_any (F k) q (by omega))
      rw [HFQ.out] at HPL
      clear hcs hcl hcur hX hq hW5 hW6 hb6
      unfold zero9 at HW5 HT5
      generalize hFkk : F k = fk at *
      go_wp2_with (first | (refine wpList_load_part rfl 29 _ rfl kb (k * 9) rfl _ cur cs (0, 0) _ HX.out HCL.out Tryz.underlying29 rfl (by rw [HL9.out]; exact nre_size) ?_) | (rw [← HW5.out]; refine wpList_store_rowTo rfl 29 _ _ rfl rfl wr.heap.size cs.toArray rfl rfl _ _ HT5.out (by rw [List.size_toArray, HL9.out]; exact nre_size) (by show 9 = cs.length; exact HL9.out.symm) HC1.out ?_; rw [← HW6.out]) | (refine wpList_load_row rfl 29 _ rfl wr.heap.size rfl _ _ (0, 0) _ HT6.out Tryz.underlying29 rfl (by rw [List.size_toArray, HL9.out]; exact nre_size) ?_) | fail)
      refine (HCX.out _ HB6.out).mono ?_
      rintro r W7 ⟨rfl, hb7⟩
      have HB7 : Hid (Below w.heap.size w W7) := Lib.hid (HB6.out.trans (hb7.mono HB6.out.size))
      clear hb7
      go_wp2_with fail
      refine (HPL.out W7).mono ?_
      rintro r W8 ⟨rfl, rfl⟩
      go_wp2
      go_roundg (l.length - (k + 1))
      case measure => have := HGH.out; omega
      case rel => exact ⟨k + 1, rfl, by omega, rfl, by rw [Int.natCast_add]; rfl, HB7.out⟩
    · have hlti : ¬ (k : Int) < (l.length : Int) := by omega
      obtain rfl : k = l.length := by omega
      generalize hFkk : F l.length = fk at *
      go_wp2
      go_ret
      exact ⟨rfl, HBK.out⟩

set_option maxRecDepth 100000 in
set_option maxHeartbeats 16000000 in
theorem weight_row (N : Nat) (ih : WtOk N) (S : Nat → Prop) (kd : Int) (p : Nat → Bool) (mn mx gp : Int) (l : List Nd) (ka : Option Addr) (km kc : Nat) (w : World) (hk : ¬ (kd = 1 ∨ kd = 2 ∨ kd = 3 ∨ kd = 5 ∨ kd = 6)) (hN : (fo l).nn ≤ N) (hn : (fo l).nn ≤ 1100) (hok : (fo l).Ok) (hin : Nd.In w S ⟨kd, p, mn, mx, gp, fo l⟩ (.slice ka km kc)) :
    Calls Tryz.prog 37 #[Nd.v ⟨kd, p, mn, mx, gp, fo l⟩ (.slice ka km kc)] w (WtQ ((fo l).W + 0) w) := by
  obtain ⟨hkm, kvs, hks, hki, hkc⟩ := kids_vs (n := ⟨kd, p, mn, mx, gp, fo l⟩) (l := l) rfl hin
  subst hkm
  have n1 : ¬ kd = 1 := by omega
  have n2 : ¬ kd = 2 := by omega
  have n3 : ¬ kd = 3 := by omega
  have n5 : ¬ kd = 5 := by omega
  have n6 : ¬ kd = 6 := by omega
  have b1 : (kd == 1) = false := beq_eq_false_iff_ne.2 n1
  have b2 : (kd == 2) = false := beq_eq_false_iff_ne.2 n2
  have b3 : (kd == 3) = false := beq_eq_false_iff_ne.2 n3
  have b5 : (kd == 5) = false := beq_eq_false_iff_ne.2 n5
  have b6 : (kd == 6) = false := beq_eq_false_iff_ne.2 n6
  have hll := Fo.len_nn (fo l)
  rw [fo_len] at hll
  have HCALL : Hid (∀ k (h : k < l.length) X, Below w.heap.size w X → Calls Tryz.prog 37 #[(l[k]).v (kvs k)] X (WtQ (l[k]).W X)) := Lib.hid (fun k h X hX => by
    have h1 := nn_at l k h
    have h2 := hki (by omega) k
    rw [kidAt_lt h] at h2
    exact ih S _ _ X (by omega) (by omega) (ok_at l hok k h) (h2.below hX))
  have HKC : Hid (∀ k (h : k < l.length), ∃ b cur, ka = some ⟨b, 0, none⟩ ∧ b < w.heap.size ∧ w.heap[b]? = some (.cells cur 29 (0, 0)) ∧ ∀ i u, ((l[k]).cells (kvs k))[i]? = some u → cur[k * 9 + i]? = some u) := Lib.hid (fun k h => by
    rcases hkc with h0 | ⟨b, cur, h5, h6, h7, h8⟩
    · omega
    · refine ⟨b, cur, h5, lt_blkB h7, h7, fun i u hu => h8 k h i u ?_⟩
      rw [kidAt_lt h]
      exact hu)
  have HKS := Lib.hid hks
  obtain ⟨F, hF⟩ : ∃ F, F = wF l (0) := ⟨_, rfl⟩
  have HF0 : Hid (F 0 = 0) := Lib.hid (by rw [hF]; exact wF_zero l (by omega))
  have HFS : Hid (∀ k (h : k < l.length), min (F k + min (l[k]).W 4001) 4001 = F (k + 1)) := Lib.hid (fun k h => by rw [hF]; exact wF_succ l _ k h)
  have HFA : Hid (min ((fo l).W + 0) 4001 = F l.length) := Lib.hid (by rw [hF]; exact (wF_all l _).symm)
  have hFL : ∀ k, F k ≤ 4001 := fun k => by rw [hF]; exact wF_le l _ k
  have hDL : 0 ≤ 1100 := by omega
  clear hF hkc hks hki hin hok ih
  obtain ⟨W, hW⟩ : ∃ W, W = w.alloc (.cells #[.int .i64 kd, .int .u64 (sw p 0 : Nat), .int .u64 (sw p 1 : Nat), .int .u64 (sw p 2 : Nat), .int .u64 (sw p 3 : Nat), .int .i64 mn, .int .i64 mx, .int .i64 gp, .slice ka l.length kc] 29) := ⟨_, rfl⟩
  have hb : Below w.heap.size w W := by rw [hW]; exact (Below.refl _ _).alloc (Nat.le_refl _) _
  have hr1 : W.heap[w.heap.size]? = some (.cells #[.int .i64 kd, .int .u64 (sw p 0 : Nat), .int .u64 (sw p 1 : Nat), .int .u64 (sw p 2 : Nat), .int .u64 (sw p 3 : Nat), .int .i64 mn, .int .i64 mx, .int .i64 gp, .slice ka l.length kc] 29 (0, 0)) := by rw [hW]; exact alloc_last w _
  have HB := Lib.hid hb
  have HWE := Lib.hid hW
  obtain ⟨r0, r1, r2, r3, r4, r5, r6, r7, r8, rz⟩ := cells9s hr1
  clear hb hr1 hW
  unfold WtQ
  rw [HFA.out]
  unfold Nd.v Nd.cells
  go_enter Tryz.func37, Tryz.ntmps37
  go_upto_region 1 with fail
  rw [← HWE.out]
  clear HWE
  go_upto_region 12 with fail
  clear r0 r1 r2 r3 r4 r5 r6 r7 r8 rz
  go_loopg [3, 25] l.length (fun gh s3 s25 X => ∃ k : Nat, gh = l.length - k ∧ k ≤ l.length ∧ s3 = .int .i64 (F k : Nat) ∧ s25 = .int .i64 (k : Nat) ∧ Aside (Below w.heap.size w X))
  case atStart => exact ⟨0, by omega, Nat.zero_le _, by rw [HF0.out]; rfl, rfl, HB.out⟩
  case round =>
    obtain ⟨k, hgh, hk, rfl, rfl, hal⟩ := hrel
    have HGH := Lib.hid hgh
    have HBK := Lib.hid hal.out
    clear hal hgh
    by_cases hlt : k < l.length
    · have hlti : (k : Int) < (l.length : Int) := by omega
      have hk0 : (0 : Int) ≤ (k : Int) := by omega
      obtain ⟨kb, cur, rfl, hkb, hcur, hcl⟩ := HKC.out k hlt
      have hX : wr.heap[kb]? = some (.cells cur 29 (0, 0)) := (HBK.out.block kb hkb).trans hcur
      have hgk := lt_blkB hX
      obtain ⟨q, hq⟩ : ∃ q : Nat, q = min (l[k]).W 4001 := ⟨_, rfl⟩
      have hq4 : q ≤ 4001 := by rw [hq]; exact Nat.min_le_right _ _
      have HCX : Hid (∀ X, Below w.heap.size w X → Calls Tryz.prog 37 #[(l[k]).v (kvs k)] X (fun r w' => r = .returned (.int .i64 (q : Nat)) ∧ Below X.heap.size X w')) := Lib.hid (fun X hX => by rw [hq]; exact HCALL.out k hlt X hX)
      have HFQ : Hid (min (F k + q) 4001 = F (k + 1)) := Lib.hid (by rw [hq]; exact HFS.out k hlt)
      obtain ⟨cs, hcs⟩ : ∃ cs, cs = (l[k]).cells (kvs k) := ⟨_, rfl⟩
      have HC1 : Hid (cs.toArray.all (·.oneCell') = true) := Lib.hid (by rw [hcs]; have := nd_one9 l[k] (kvs k) (HKS.out k); simpa using this)
      have HL9 : Hid (cs.length = 9) := Lib.hid (by rw [hcs]; exact Nd.cells_len _ _)
      have HCL : Hid (∀ i u, cs[i]? = some u → cur[k * 9 + i]? = some u) := Lib.hid (by rw [hcs]; exact hcl)
      unfold Nd.v at HCX
      rw [← hcs] at HCX
      have HX := Lib.hid hX
      obtain ⟨W5, hW5⟩ : ∃ W5, W5 = wr.alloc (.cells zero9 29) := ⟨_, rfl⟩
      have HT5 : Hid (W5.heap[wr.heap.size]? = some (.cells zero9 29 (0, 0))) := Lib.hid (by rw [hW5]; exact alloc_last _ _)
      obtain ⟨W6, hW6⟩ : ∃ W6, W6 = W5.setRow wr.heap.size cs.toArray := ⟨_, rfl⟩
      have hb6 : Below wr.heap.size wr W6 := by rw [hW6, hW5]; exact below_setRow ((Below.refl _ _).alloc (Nat.le_refl _) _) (Nat.le_refl _) _
      have HT6 : Hid (W6.heap[wr.heap.size]? = some (.cells cs.toArray 29 (0, 0))) := Lib.hid (by rw [hW6]; exact setRow_selfR HT5.out _)
      have HB6 : Hid (Below w.heap.size w W6) := Lib.hid (HBK.out.trans (hb6.mono HBK.out.size))
      have hz6 : wr.heap.size < W6.heap.size := lt_blkB HT6.out
      have HW5 := Lib.hid hW5
      have HW6 := Lib.hid hW6
      have hFk := hFL k
      have HPL := Lib.hid (plus_any (F k) q (by omega))
      rw [HFQ.out] at HPL
      clear hcs hcl hcur hX hq hW5 hW6 hb6
      unfold zero9 at HW5 HT5
      generalize hFkk : F k = fk at *
      go_wp2_with (first | (refine wpList_load_part rfl 29 _ rfl kb (k * 9) rfl _ cur cs (0, 0) _ HX.out HCL.out Tryz.underlying29 rfl (by rw [HL9.out]; exact nre_size) ?_) | (rw [← HW5.out]; refine wpList_store_rowTo rfl 29 _ _ rfl rfl wr.heap.size cs.toArray rfl rfl _ _ HT5.out (by rw [List.size_toArray, HL9.out]; exact nre_size) (by show 9 = cs.length; exact HL9.out.symm) HC1.out ?_; rw [← HW6.out]) | (refine wpList_load_row rfl 29 _ rfl wr.heap.size rfl _ _ (0, 0) _ HT6.out Tryz.underlying29 rfl (by rw [List.size_toArray, HL9.out]; exact nre_size) ?_) | fail)
      refine (HCX.out _ HB6.out).mono ?_
      rintro r W7 ⟨rfl, hb7⟩
      have HB7 : Hid (Below w.heap.size w W7) := Lib.hid (HB6.out.trans (hb7.mono HB6.out.size))
      clear hb7
      go_wp2_with fail
      refine (HPL.out W7).mono ?_
      rintro r W8 ⟨rfl, rfl⟩
      go_wp2
      go_roundg (l.length - (k + 1))
      case measure => have := HGH.out; omega
      case rel => exact ⟨k + 1, rfl, by omega, rfl, by rw [Int.natCast_add]; rfl, HB7.out⟩
    · have hlti : ¬ (k : Int) < (l.length : Int) := by omega
      obtain rfl : k = l.length := by omega
      generalize hFkk : F l.length = fk at *
      go_wp2
      go_ret
      exact ⟨rfl, HBK.out⟩

/-- A tree's weight. -/
theorem weight_any : ∀ N, WtOk N
  | 0 => fun S nd kv w h => by unfold Nd.nn at h; omega
  | N + 1 => fun S nd kv w hN hn hok hin => by
    obtain ⟨ka, km, kc, rfl⟩ := hin.shape
    obtain ⟨kd, p, mn, mx, gp, kids⟩ := nd
    obtain ⟨l, rfl⟩ : ∃ l, kids = fo l := ⟨kids.toL, (fo_toL _).symm⟩
    have ih := weight_any N
    have hNl : (fo l).nn ≤ N := by unfold Nd.nn at hN; simp only at hN; omega
    have hnl : (fo l).nn ≤ 1100 := by unfold Nd.nn at hn; simp only at hn; omega
    obtain ⟨⟨h5, h6⟩, hkok⟩ := hok
    by_cases h1 : kd = 1 ∨ kd = 2 ∨ kd = 3
    · have e : Nd.W ⟨kd, p, mn, mx, gp, fo l⟩ = 1 := by unfold Nd.W ndW; simp only [if_pos h1]
      rw [e]
      exact weight_leaf kd p mn mx gp (fo l) _ w h1 ⟨_, _, _, rfl⟩
    by_cases h66 : kd = 6
    · subst h66
      obtain ⟨a1, a2, a3, a4, a5⟩ := h6 rfl
      have e : Nd.W ⟨6, p, mn, mx, gp, fo l⟩ = (if mx < 0 then (mn.toNat + 1) * (fo l).W + 1 else mx.toNat * (fo l).W + (mx.toNat - mn.toNat)) := by unfold Nd.W ndW; simp only [if_neg h1]; rfl
      rw [fo_len] at a5
      obtain ⟨x, rfl⟩ : ∃ x, l = [x] := by
        match l, a5 with
        | [x], _ => exact ⟨x, rfl⟩
      have ew : (fo [x]).W = x.W := Nat.add_zero _
      rw [e, ew]
      have enn : (fo [x]).nn = x.nn := by show 1 + x.kids.nn + 0 = 1 + x.kids.nn; omega
      exact weight_rep p mn mx gp _ _ w _ ⟨_, _, _, rfl⟩ (fun X hX => weightRep_any N ih S 6 p mn mx gp x ka km kc X a1 a2 a3 a4 (by omega) (by omega) (ok_at _ hkok 0 (by simp)) (hin.below hX))
    by_cases h55 : kd = 5
    · subst h55
      have e : Nd.W ⟨5, p, mn, mx, gp, fo l⟩ = (fo l).W + (l.length - 1) := by unfold Nd.W ndW; simp only [if_neg h1, fo_len]; rfl
      rw [e]
      have hl0 := h5 rfl
      rw [fo_len] at hl0
      exact weight_alt N ih S p mn mx gp l ka km kc w hNl hnl hkok hin hl0
    · have e : Nd.W ⟨kd, p, mn, mx, gp, fo l⟩ = (fo l).W + 0 := by unfold Nd.W ndW; simp only [if_neg h1, if_neg h55, if_neg h66]; rfl
      rw [e]
      exact weight_row N ih S kd p mn mx gp l ka km kc w (by omega) hNl hnl hkok hin
end Go.Proofs.YtcceiblmdjbhjaaGreatDoor
