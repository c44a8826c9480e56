import Derived.Test.YtnpkcllbpnmabaaGreatDoorKNw
import Derived.Test.YtnpkcllbpnmabaaGreatDoorKTb
import Derived.Test.YtnpkcllbpnmabaaGreatDoorKNt
import Derived.Test.YtnpkcllbpnmabaaGreatDoorFaFn
namespace Go.Proofs.YtnpkcllbpnmabaaGreatDoor
set_option maxHeartbeats 8000000
set_option maxRecDepth 100000
open Go.RowKit
theorem Fo.nn_sz : ∀ f : Fo, f.nn = f.sz
 | .nil => rfl
 | .cons _ _ _ _ _ kids rest => by
  show 1 + kids.nn + rest.nn = 1 + kids.sz + rest.sz
  rw [Fo.nn_sz kids, Fo.nn_sz rest]
theorem Nd.nn_sz (n : Nd) : n.nn = n.sz := by unfold Nd.nn Nd.sz; rw [Fo.nn_sz]
def okL (l : List Nd) : Prop := ∀ x ∈ l, x.Ok
theorem fo_ok : ∀ l : List Nd, okL l → (fo l).Ok
 | [], _ => trivial
 | n :: r, h => ⟨(h n (by simp)).1, (h n (by simp)).2, fo_ok r fun x hx => h x (List.mem_cons_of_mem _ hx)⟩
theorem ok_snoc {l : List Nd} {x : Nd} (h : okL l) (hx : x.Ok) : okL (l ++ [x]) := fun y hy => by
 rcases List.mem_append.1 hy with h1 | h1
 ·exact h y h1
 ·rw [List.mem_singleton.1 h1]; exact hx
theorem ok_one {x : Nd} (h : x.Ok) : okL [x] := fun y hy => by rw [List.mem_singleton.1 hy]; exact h
theorem ok_join {kd : Int} {l : List Nd} (h : okL l) (hl : l ≠ []) (h6 : kd ≠ 6) : (joinN kd l).Ok := by
 unfold joinN
 split
 ·exact h _ (by simp)
 ·exact ⟨⟨fun _ => by rw [fo_len]; exact List.length_pos_iff.2 hl, fun e => (h6 e).elim⟩, fo_ok _ h⟩
theorem ok_repN {x : Nd} {m n : Int} (h : x.Ok) (h1 : 0 ≤ m ∧ (n = -1 ∨ m ≤ n) ∧ m ≤ 255 ∧ n ≤ 255) : (repN m n x).Ok := ⟨⟨fun e => (by cases e), fun _ => ⟨h1.1, h1.2.1, h1.2.2.1, h1.2.2.2, rfl⟩⟩, fo_ok _ (ok_one h)⟩
theorem ok_rep {l : List Nd} {m n : Int} (h : okL l) (h1 : 0 ≤ m ∧ (n = -1 ∨ m ≤ n) ∧ m ≤ 255 ∧ n ≤ 255) : okL (repL l m n) := by
 unfold repL
 cases hx : l.getLast? with
 | none => exact h
 | some x => exact ok_snoc (fun y hy => h y (List.dropLast_subset _ hy)) (ok_repN (h x (List.mem_of_getLast? hx)) h1)
theorem ok_leaf {kd : Int} {p : Nat → Bool} {mn mx gp : Int} (h5 : kd ≠ 5) (h6 : kd ≠ 6) : Nd.Ok ⟨kd, p, mn, mx, gp, .nil⟩ := ⟨⟨fun e => (h5 e).elim, fun e => (h6 e).elim⟩, trivial⟩
theorem itv_okk {l : List Int} (hl : Byt l) {ext : Bool} {k : Nat} {m n : Int} {k2 : Nat} (h : itv l ext k = some (m, n, k2)) : 0 ≤ m ∧ (n = -1 ∨ m ≤ n) ∧ m ≤ 255 ∧ n ≤ 255 := by
 unfold itv at h
 split at h
 ·cases h
 rename_i h0
 have a := numV_fits hl (k := k) (by simpa using h0)
 split at h
 ·simp only [Option.some.injEq, Prod.mk.injEq] at h; omega
 split at h
 ·cases h
 split at h
 ·simp only [Option.some.injEq, Prod.mk.injEq] at h; omega
 split at h
 ·rename_i h3
  simp only [Bool.and_eq_true, decide_eq_true_eq] at h3
  have b := numV_fits hl (k := k + nD l k + 1) h3.1.1
  simp only [Option.some.injEq, Prod.mk.injEq] at h; omega
 ·cases h
theorem sg_numOk (cf : ByteArray → (Nat → Bool) × Bool) {l : List Int} (hl : Byt l) (ext : Bool) (k : Nat) : (sg cf l ext k).kd = 1 → (sg cf l ext k).er = none → 0 ≤ (sg cf l ext k).lo ∧ ((sg cf l ext k).hi = -1 ∨ (sg cf l ext k).lo ≤ (sg cf l ext k).hi) ∧ (sg cf l ext k).lo ≤ 255 ∧ (sg cf l ext k).hi ≤ 255 := by
 apply sg_cases (fun s => s.kd = 1 → s.er = none → 0 ≤ s.lo ∧ (s.hi = -1 ∨ s.lo ≤ s.hi) ∧ s.lo ≤ 255 ∧ s.hi ≤ 255)
 case h123 => exact fun m n k2 _ hi _ _ => itv_okk hl hi
 all_goals
  intros
  dsimp only
  omega
theorem sg_nd_ok (cf : ByteArray → (Nat → Bool) × Bool) (l : List Int) (ext : Bool) (k : Nat) : (sg cf l ext k).nd.Ok := by
 apply sg_cases (fun s => s.nd.Ok) <;> intros <;> exact ok_leaf (by decide) (by decide)
theorem rdR_okN (cf : ByteArray → (Nat → Bool) × Bool) {l : List Int} (hl : Byt l) (ext : Bool) (n : Nat) (md : RM) (k g o : Nat) (t : Nd) (k1 g1 : Nat) (h : rdR cf l ext n md k g o = some (.ok t k1 g1)) (hm : okL md.list) : t.Ok := by
 have key := rdR_ind cf l ext (fun md _ _ _ r => okL md.list → ∀ t k1 g1, r = .ok t k1 g1 → t.Ok) ?_ ?_ ?_ ?_ ?_ ?_ ?_ ?_ ?_ ?_ ?_ ?_ ?_ ?_ ?_ n md k g o _ h
 ·exact key hm t k1 g1 rfl
 ·intro bs k g o c p _ _ t k1 g1 e; cases e
 ·intro bs k g o b k1 g1 r h1 _ h2 hm t k2 g2 e
  have a := h1 (fun x hx => by cases hx) _ _ _ rfl
  exact h2 (ok_snoc hm a) _ _ _ e
 ·intro bs k g o b k1 g1 h1 _ hm t k2 g2 e
  have a := h1 (fun x hx => by cases hx) _ _ _ rfl
  cases e
  exact ok_join (ok_snoc hm a) (by simp) (by decide)
 ·intro k g o _ _ t k1 g1 e; cases e
 ·intro items k g o _ hne hm t k1 g1 e
  cases e
  exact ok_join hm hne (by decide)
 ·intro items k g o r _ _ h2 hm t k1 g1 e
  exact h2 (ok_snoc hm (ok_leaf (by decide) (by decide))) _ _ _ e
 ·intro items k g o _ _ _ t k1 g1 e; cases e
 ·intro items k g o c p _ _ _ _ t k1 g1 e; cases e
 ·intro items k g o r hk1 _ her h2 hm t k1 g1 e
  exact h2 (ok_rep hm (sg_numOk cf hl ext k hk1 her)) _ _ _ e
 ·intro items k g o _ _ _ t k1 g1 e; cases e
 ·intro items k g o c p _ _ _ _ t k1 g1 e; cases e
 ·intro items k g o t k1 g1 _ _ _ _ _ t' k2 g2 e; cases e
 ·intro items k g o t k1 g1 r _ h9 h1 _ h2 hm t' k2 g2 e
  have a := h1 (fun x hx => by cases hx) _ _ _ rfl
  exact h2 (ok_snoc hm ⟨⟨fun e => (by cases e), fun e => (by cases e)⟩, fo_ok _ (ok_one a)⟩) _ _ _ e
 ·intro items k g o c p _ _ _ _ _ t k1 g1 e; cases e
 ·intro items k g o r _ _ _ _ _ h2 hm t k1 g1 e
  exact h2 (ok_snoc hm (sg_nd_ok cf l ext k)) _ _ _ e
theorem parseN_okN {cf : ByteArray → (Nat → Bool) × Bool} {l : List Int} (hl : Byt l) {ext : Bool} {n : Nat} {t : Nd} {k g : Nat} (h : parseN cf l ext n = some (.ok t k g)) : t.Ok ∧ t.nn ≤ 1026 ∧ 1 ≤ t.kd := by
 obtain ⟨h1, h2, h3, _⟩ := parseN_ok h
 refine ⟨rdR_okN cf hl ext _ _ _ _ _ _ _ _ h2 (fun x hx => by cases hx), ?_, ?_⟩
 ·rw [Nd.nn_sz]; exact (parseN_fit hl h).2
 ·exact (rdR_kd cf l ext _ _ _ _ _ _ _ _ h2 (fun x hx => by cases hx) (Nat.zero_le _)).1
end Go.Proofs.YtnpkcllbpnmabaaGreatDoor
namespace Go.Proofs.YtnpkcllbpnmabaaGreatDoor
set_option maxHeartbeats 8000000
set_option maxRecDepth 100000
open Go.RowKit Go.Extern.Stop Go.Stop Go.Extern
theorem weightO_at (S : Nat → Prop) (w : World) (b : Nat) (t : Nd) (kv : Value) (g : Nat) (ext : Bool) (h : ReAt w b t kv g ext) (hM : t.sz ≤ 1000000) (hnn : t.nn ≤ 1100) (hok : t.Ok) (hkd : 1 ≤ t.kd) (hin : t.In w S kv) :
  Calls Tryz.prog 19 #[.pointer (some ⟨b, 0, none⟩)] w fun x w' => x = .returned (.int .i64 ((min (t.W + 1) 4001 : Nat) : Int)) ∧ Below w.heap.size w w' := by
 have HT := Lib.hid (Tree_at S w b t kv g ext h hM hin)
 obtain ⟨q, hq⟩ : ∃ q : Nat, q = min t.W 4001 := ⟨_, rfl⟩
 have hq4 : q ≤ 4001 := by rw [hq]; exact Nat.min_le_right _ _
 have HPL := Lib.hid (plus_any q 1 (by omega))
 have hqq : min (q + 1) 4001 = min (t.W + 1) 4001 := by omega
 rw [hqq] at HPL
 generalize min (t.W + 1) 4001 = Q at HPL ⊢
 have HWT : Hid (∀ X S' kv', t.In X S' kv' → Calls Tryz.prog 37 #[t.v kv'] X (fun r w' => r = .returned (.int .i64 (q : Nat)) ∧ Below X.heap.size X w')) := Lib.hid (fun X S' kv' hi => by rw [hq]; exact weight_any t.nn S' t kv' X (Nat.le_refl _) hnn hok hi)
 clear h hM hnn hok hin hq hqq
 obtain ⟨kd, p, mn, mx, gp, kids⟩ := t
 have n0 : ¬ kd = 0 := by simp only at hkd; omega
 have b0 : (kd == 0) = false := beq_eq_false_iff_ne.2 n0
 clear hkd
 unfold ClP at HT
 go_enter Tryz.func19, Tryz.ntmps19
 go_wp2_with fail
 refine HT.out.mono ?_
 rintro x w1 ⟨ta, tm, tc, rfl, hi1, hb1⟩
 obtain ⟨cs, hcs⟩ : ∃ cs : Array Value, cs = #[.int .i64 kd, .int .u64 (sw p 0 : Nat), .int .u64 (sw p 1 : Nat), .int .u64 (sw p 2 : Nat), .int .u64 (sw p 3 : Nat), .int .i64 mn, .int .i64 mx, .int .i64 gp, .slice ta tm tc] := ⟨_, rfl⟩
 have hval : Nd.v ⟨kd, p, mn, mx, gp, kids⟩ (.slice ta tm tc) = .agg cs := by rw [hcs]; rfl
 obtain ⟨W5, hW5⟩ : ∃ W5, W5 = w1.alloc (.cells zero9 57) := ⟨_, rfl⟩
 have HT5 : Hid (W5.heap[w1.heap.size]? = some (.cells zero9 57 (0, 0))) := Lib.hid (by rw [hW5]; exact alloc_last _ _)
 obtain ⟨W6, hW6⟩ : ∃ W6, W6 = W5.setRow w1.heap.size cs := ⟨_, rfl⟩
 have hb6 : Below w1.heap.size w1 W6 := by rw [hW6, hW5]; exact below_setRow ((Below.refl _ _).alloc (Nat.le_refl _) _) (Nat.le_refl _) _
 have hT6 : W6.heap[w1.heap.size]? = some (.cells cs 57 (0, 0)) := by rw [hW6]; exact setRow_selfR HT5.out _
 have HT6 := Lib.hid hT6
 have HS9 : Hid (cs.size = 9) := Lib.hid (by rw [hcs]; rfl)
 have HO9 : Hid (cs.all (·.oneCell') = true) := Lib.hid (by rw [hcs]; simp [Value.oneCell'])
 have HB6 : Hid (Below w.heap.size w W6) := Lib.hid (hb1.trans (hb6.mono hb1.size))
 have HWC := Lib.hid (HWT.out W6 _ _ (hi1.below hb6))
 rw [hval] at HWC ⊢
 have HW5 := Lib.hid hW5
 have HW6 := Lib.hid hW6
 unfold zero9 at HW5 HT5
 rw [hcs] at hT6
 obtain ⟨r0, r1, r2, r3, r4, r5, r6, r7, r8, rz⟩ := cells9s hT6
 clear hW5 hW6 hb6 hT6 hb1 HT hcs hval hi1 HWT
 go_wp2_with (first | (rw [← HW5.out]; refine wpList_store_rowTo rfl 57 _ _ rfl rfl w1.heap.size cs rfl rfl _ _ HT5.out (by rw [HS9.out]; exact nre_size) (by rw [HS9.out]; rfl) HO9.out ?_; rw [← HW6.out]) | (refine wpList_load_row rfl 57 _ rfl w1.heap.size rfl _ _ (0, 0) _ HT6.out Tryz.underlying57 rfl (by rw [HS9.out]; exact nre_size) ?_) | fail)
 refine HWC.out.mono ?_
 rintro x w7 ⟨rfl, hb7⟩
 have HB7 : Hid (Below w.heap.size w w7) := Lib.hid (HB6.out.trans (hb7.mono HB6.out.size))
 clear hb7
 go_wp2_with fail
 refine (HPL.out w7).mono ?_
 rintro x w8 ⟨rfl, rfl⟩
 go_wp2
 go_ret
 exact ⟨rfl, HB7.out⟩
def BuQ (t : Nd) (w : World) (x : Ending) (w' : World) : Prop := ∃ B gb, x = .returned (.tuple #[.pointer (some ⟨gb, 0, none⟩), .nilIface]) ∧ w.heap.size ≤ B ∧ GrAt B gb t.G.1 t.G.2 w' ∧ Below w.heap.size w w'
theorem build_at (S : Nat → Prop) (w : World) (b : Nat) (t : Nd) (kv : Value) (g : Nat) (ext : Bool) (h : ReAt w b t kv g ext) (hM : t.sz ≤ 1000000) (hnn : t.nn ≤ 1100) (hok : t.Ok) (hkd : 1 ≤ t.kd) (hin : t.In w S kv) (hW : t.W + 1 ≤ 4000) :
  Calls Tryz.prog 10 #[.pointer (some ⟨b, 0, none⟩)] w (BuQ t w) := by
 have HW0 := Lib.hid (weightO_at S w b t kv g ext h hM hnn hok hkd hin)
 obtain ⟨q, hq⟩ : ∃ q : Nat, q = min (t.W + 1) 4001 := ⟨_, rfl⟩
 rw [← hq] at HW0
 have q1 : (1 : Int) ≤ (q : Int) := by omega
 have q2 : (q : Int) ≤ 4000 := by omega
 have q3 : ¬ (q : Int) = 0 := by omega
 have q4 : ((q : Int) == 0) = false := beq_eq_false_iff_ne.2 q3
 have q5 : ¬ q = 0 := by omega
 have HTR : Hid (∀ X, Below w.heap.size w X → Calls Tryz.prog 25 #[.pointer (some ⟨b, 0, none⟩)] X (ClP t X)) := Lib.hid (fun X hX => Tree_at S X b t kv g ext (blk_below h hX) hM (hin.below hX))
 have HOF : Hid (∀ X S' kv', t.In X S' kv' → Calls Tryz.prog 24 #[t.v kv'] X (OfQ t X)) := Lib.hid (fun X S' kv' hi => gof_any S' t kv' X hok (Nd.light t (by omega) hnn) hnn hi)
 clear h hM hnn hok hkd hin hW hq
 unfold BuQ
 unfold ClP at HTR
 unfold OfQ at HOF
 go_enter Tryz.func10, Tryz.ntmps10
 go_wp2_with fail
 refine HW0.out.mono ?_
 rintro x w1 ⟨rfl, hb1⟩
 have HB1 := Lib.hid hb1
 clear hb1
 go_wp2_with fail
 refine (HTR.out w1 HB1.out).mono ?_
 rintro x w2 ⟨ta, tm, tc, rfl, hi2, hb2⟩
 have HB2 : Hid (Below w.heap.size w w2) := Lib.hid (HB1.out.trans (hb2.mono HB1.out.size))
 have HOX := Lib.hid (HOF.out w2 _ _ hi2)
 clear hb2 hi2
 go_wp2_with fail
 refine HOX.out.mono ?_
 rintro x w3 ⟨gb, rfl, hg3, hb3⟩
 have HG3 := Lib.hid hg3
 have HB3 : Hid (Below w.heap.size w w3) := Lib.hid (HB2.out.trans (hb3.mono HB2.out.size))
 clear hg3 hb3
 go_wp2
 go_ret2
 exact ⟨w2.heap.size, gb, rfl, HB2.out.size, HG3.out, HB3.out⟩
end Go.Proofs.YtnpkcllbpnmabaaGreatDoor
