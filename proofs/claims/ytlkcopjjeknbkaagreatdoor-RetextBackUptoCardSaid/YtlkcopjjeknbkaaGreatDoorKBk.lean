/- KBk: several texts in one (kmerge.py). -/
import Derived.Test.YtlkcopjjeknbkaaGreatDoorReO
import Derived.Test.YtlkcopjjeknbkaaGreatDoorKTb
import Derived.Test.YtlkcopjjeknbkaaGreatDoorKPu
import Derived.Test.YtlkcopjjeknbkaaGreatDoorKFa
import Derived.Defers
import Derived.Recover
import Derived.RegionTactic
import Derived.ChangeAlike
import Derived.Test.YtlkcopjjeknbkaaGreatDoorSeCxB
import Derived.Test.YtlkcopjjeknbkaaGreatDoorScDigits
import Derived.ChangeSlices
import Derived.ProofKit
import Derived.Deep.Slices
import Derived.Below
import Derived.SizedLaws
import Derived.Test.YtlkcopjjeknbkaaGreatDoorReQt
import Derived.Test.YtlkcopjjeknbkaaGreatDoorReQ
import Derived.Test.YtlkcopjjeknbkaaGreatDoorReOne
/- RetextBack: its walk, opened (gen_reback.py). -/
namespace Go.Proofs.YtlkcopjjeknbkaaGreatDoor
open Go.RowKit

/-- A byte as a tree. -/
def byteN (c : Int) : Nd := setN (mem [c])
theorem byteN_in (w : World) (S : Nat → Prop) (c : Int) : (byteN c).In w S nilS := leaf_in w S _ rfl
theorem byteN_sz (c : Int) : (byteN c).sz ≤ 1000000 := by show 1 + 0 ≤ 1000000; omega
theorem oneB_any (c : Nat) (hc : c < 256) (w : World) : Calls Tryz.prog 24 #[.int .u8 (c : Nat)] w fun x w' => x = .returned ((byteN c).v nilS) ∧ Below w.heap.size w w' := one_any c hc w
/-- A byte and itself. -/
theorem sameB_any (c : Int) (S : Nat → Prop) (kv : Value) (w : World) (h : (byteN c).In w S kv) : Calls Tryz.prog 20 #[(byteN c).v kv, (byteN c).v nilS] w fun x w' => x = .returned (.bool true) ∧ Below w.heap.size w w' :=
  same_any S (fun _ => True) _ (byteN c) kv nilS w (Nat.le_refl _) (byteN_sz c) h (byteN_in w _ c)
theorem str_byte (s : ByteArray) (k : Nat) (h : k < s.size) : (s[k].toNat : Nat) < 256 ∧ (bys s)[k]? = some ((s[k].toNat : Nat) : Int) := by
  refine ⟨s[k].toNat_lt, ?_⟩
  have := bys_getD s k h
  rw [List.getD, List.getElem?_eq_getElem (by rw [bys_length]; exact h)] at this
  rw [List.getElem?_eq_getElem (by rw [bys_length]; exact h)]
  simpa using this
set_option maxRecDepth 100000 in
set_option maxHeartbeats 4000000 in
theorem rbk_nil (w : World) (s : ByteArray) (ext : Bool) (hs : s.size = 0) (q : ByteArray)
    (HQ : Hid (Calls Tryz.prog 21 #[.string s, .bool ext] w fun e w' => e = .returned (.string q) ∧ Below w.heap.size w w'))
    (HA : Hid (∀ X, Below w.heap.size w X → Calls Tryz.prog 14 #[] X fun x w' => x = .returned (.bool true) ∧ Below X.heap.size X w')) :
    Calls Tryz.prog 8 #[.string s, .bool ext] w fun x w' => x = .returned (.bool true) ∧ Below w.heap.size w w' := by
  have hse : (s.toList == []) = true := by
    rw [ByteArray.toList_eq]
    have : s.data.toList.length = 0 := by simpa using hs
    rw [List.length_eq_zero_iff.1 this]; rfl
  clear hs
  go_enter Tryz.func8, Tryz.ntmps8
  go_wp2_with fail
  refine HQ.out.mono ?_
  rintro x w1 ⟨rfl, hb1⟩
  have HB1 := Lib.hid hb1
  clear hb1
  go_wp2_with fail
  refine (HA.out _ HB1.out).mono ?_
  rintro x w2 ⟨rfl, hb2⟩
  have HB2 := Lib.hid (below_thn HB1.out (Nat.le_refl _) hb2)
  clear hb2
  go_wp2
  go_ret
  exact ⟨rfl, HB2.out⟩
theorem str_full (s : ByteArray) (hs : ¬ s.size = 0) : (s.toList == []) = false := by
  rw [Bool.eq_false_iff]
  intro h
  rw [beq_iff_eq, ByteArray.toList_eq] at h
  have := congrArg List.length h
  simp at this
  exact hs (by simpa using this)
set_option maxRecDepth 100000 in
set_option maxHeartbeats 4000000 in
theorem rbk_long (w : World) (s : ByteArray) (ext : Bool) (hs : ¬ s.size = 0) (q : ByteArray) (hq : 256 < q.size)
    (HQ : Hid (Calls Tryz.prog 21 #[.string s, .bool ext] w fun e w' => e = .returned (.string q) ∧ Below w.heap.size w w'))
    (HA : Hid (∀ X, Below w.heap.size w X → Calls Tryz.prog 14 #[] X fun x w' => x = .returned (.bool true) ∧ Below X.heap.size X w')) :
    Calls Tryz.prog 8 #[.string s, .bool ext] w fun x w' => x = .returned (.bool true) ∧ Below w.heap.size w w' := by
  have hse := str_full s hs
  have hq2 : decide ((256 : Int) < (q.size : Int)) = true := decide_eq_true (by omega)
  have hq3 : decide (256 < q.size) = true := decide_eq_true hq
  clear hs
  go_enter Tryz.func8, Tryz.ntmps8
  go_wp2_with fail
  refine HQ.out.mono ?_
  rintro x w1 ⟨rfl, hb1⟩
  have HB1 := Lib.hid hb1
  clear hb1
  go_wp2_with fail
  refine (HA.out _ HB1.out).mono ?_
  rintro x w2 ⟨rfl, hb2⟩
  have HB2 := Lib.hid (below_thn HB1.out (Nat.le_refl _) hb2)
  clear hb2
  go_wp2
  go_ret
  exact ⟨rfl, HB2.out⟩
set_option maxRecDepth 100000 in
set_option maxHeartbeats 16000000 in
theorem rbk_one (w : World) (s : ByteArray) (ext : Bool) (t : Nd) (hs1 : s.size = 1) (q : ByteArray) (hq : q.size ≤ 256) (c : Nat) (hc2 : c < 256) (hc : (s[0]'(by omega)).toNat = c) (ht : t = byteN c)
    (HQ : Hid (Calls Tryz.prog 21 #[.string s, .bool ext] w fun e w' => e = .returned (.string q) ∧ Below w.heap.size w w'))
    (HP : Hid (∀ w1 cap W2, Below w.heap.size w w1 → Sl W2 (.slice (some ⟨w1.heap.size, 0, none⟩) q.size cap) (bys q) → Below w1.heap.size w1 W2 → Calls Tryz.prog 11 #[.slice (some ⟨w1.heap.size, 0, none⟩) q.size cap, .bool ext] W2 fun x w' => ∃ p, x = .returned (.tuple #[.pointer (some ⟨p, 0, none⟩), .nilIface]) ∧ Below W2.heap.size W2 w' ∧ (∀ X, Below w'.heap.size w' X → Calls Tryz.prog 17 #[.pointer (some ⟨p, 0, none⟩)] X fun x w' => x = .returned (.int .i64 0) ∧ w' = X) ∧ (∀ X, Below w'.heap.size w' X → Calls Tryz.prog 19 #[.pointer (some ⟨p, 0, none⟩)] X (ClP t X))))
    (HA : Hid (∀ X, Below w.heap.size w X → Calls Tryz.prog 14 #[] X fun x w' => x = .returned (.bool true) ∧ Below X.heap.size X w')) :
    Calls Tryz.prog 8 #[.string s, .bool ext] w fun x w' => x = .returned (.bool true) ∧ Below w.heap.size w w' := by
  have hse := str_full s (by omega)
  have hix : ∀ X : World, (Instr.index 9 (.string s) (.int .i64 0)).run Tryz.prog X = .ok (.int .u8 (c : Nat)) X := fun X => by
    rw [run_index_string X 9 s .i64 0 Tryz.underlying9, dif_pos ⟨by omega, by omega⟩]
    show Result.ok (Value.int .u8 ((s[0]'(by omega)).toNat : Nat)) X = _
    rw [hc]
  have HIX := Lib.hid hix
  have hs2 : (s.size : Int) = 1 := by omega
  have HTE := Lib.hid ht
  clear ht hc hix
  have hq1 : (q.size : Int) ≤ 256 := by omega
  have hq2 : decide ((256 : Int) < (q.size : Int)) = false := decide_eq_false (by omega)
  have hq3 : decide (256 < q.size) = false := decide_eq_false (by omega)
  unfold ClP at HP
  go_enter Tryz.func8, Tryz.ntmps8
  go_wp2_with fail
  refine HQ.out.mono ?_
  rintro x w1 ⟨rfl, hb1⟩
  have HB1 := Lib.hid hb1
  clear hb1
  obtain ⟨qc, W2, hcv, hsl2, hb2⟩ := conv_sl w1 q (by omega)
  have HP2 := Lib.hid (HP.out w1 qc W2 HB1.out hsl2 hb2)
  have HB2 := Lib.hid (below_thn HB1.out (Nat.le_refl _) hb2)
  clear hsl2 hb2
  go_wp2_with fail
  refine HP2.out.mono ?_
  rintro x w3 ⟨p, rfl, hb3, hgr, htr⟩
  have HG3 := Lib.hid (hgr w3 (Below.refl _ _))
  have HT3 := Lib.hid (htr w3 (Below.refl _ _))
  have HB3 := Lib.hid (below_thn HB2.out (Nat.le_refl _) hb3)
  clear hb3 hgr htr hcv HP2
  go_wp2_with fail
  refine HG3.out.mono ?_
  rintro x w4 ⟨rfl, rfl⟩
  go_wp2_with fail
  refine HT3.out.mono ?_
  rintro x w5 ⟨ta, tm, tc, rfl, hti, hb5⟩
  have HB5 := Lib.hid (below_thn HB3.out (Nat.le_refl _) hb5)
  obtain ⟨W6, hW6⟩ : ∃ W6, W6 = w5.alloc (.cells zero9 33) := ⟨_, rfl⟩
  have hT6 : W6.heap[w5.heap.size]? = some (.cells zero9 33 (0, 0)) := by rw [hW6]; exact alloc_last _ _
  obtain ⟨W7, hW7⟩ : ∃ W7, W7 = W6.setRow w5.heap.size (t.cells (.slice ta tm tc)).toArray := ⟨_, rfl⟩
  have hb7 : Below w5.heap.size w5 W7 := by rw [hW7, hW6]; exact below_setRow ((Below.refl _ _).alloc (Nat.le_refl _) _) (Nat.le_refl _) _
  have hT7 : W7.heap[w5.heap.size]? = some (.cells (t.cells (.slice ta tm tc)).toArray 33 (0, 0)) := by rw [hW7]; exact setRow_selfR hT6 _
  have HB7 := Lib.hid (below_thn HB5.out (Nat.le_refl _) hb7)
  have HTI : Hid (t.In W7 (fun _ => True) (.slice ta tm tc)) := Lib.hid ((hti.below hb7).mono fun _ _ _ => trivial)
  have HT6 := Lib.hid hT6
  have HT7 := Lib.hid hT7
  have HW6 := Lib.hid hW6
  have HW7 := Lib.hid hW7
  have hz7 := lt_blkB hT7
  clear hb5 hti hW6 hT6 hW7 hT7 hb7
  have HNV : Hid (t.v (.slice ta tm tc) = .agg (t.cells (.slice ta tm tc)).toArray) := Lib.hid rfl
  unfold zero9 at HW6
  go_upto_region 8 with (first | (rw [← HW6.out]; refine wpList_store_re rfl _ _ rfl rfl w5.heap.size t ta tm tc rfl rfl _ HT6.out rfl ?_; rw [← HW7.out]) | fail)
  clear HT6 HW6 HW7
  rw [HTE.out] at HTI
  have HTW : Hid (Below W7.heap.size W7 W7.drew) := Lib.hid (Below.refl _ _).drew
  have HT7' : Hid (W7.heap[w5.heap.size]? = some (.cells ((byteN c).cells (.slice ta tm tc)).toArray 33 (0, 0))) := Lib.hid (by rw [← HTE.out]; exact HT7.out)
  clear HT7 HTE
  go_upto_region 9 with fail
  refine Reg.wp_region_vals (fun X => Below W7.heap.size W7 X) (fun j => ([some ((byteN c).v (.slice ta tm tc)), some (.string s), some (.int .u8 (c : Nat)), some ((byteN c).v nilS), some (.bool true), some (.bool true), some (.bool true), some (.bool true), some (.bool true)] : List (Option Value)).getD j none) (fun _ _ _ => True) (by kernel_rfl) (by kernel_rfl) (by kernel_rfl) (by kernel_rfl) ?rs0 ?rsE ?rsZ
  case rs0 => exact HTW.out
  case rsE =>
    refine Reg.EachV.plain rfl (fun T X hS hk K hK => ?_) ?_
    · skip
      have g8 : T[8]? = some (.pointer (some ⟨w5.heap.size, 0, none⟩)) := hk.old 8 (by kernel_rfl) rfl
      refine wp_load_part 33 _ rfl w5.heap.size 0 (by simp [Act.eval, g8]) _ ((byteN c).cells (.slice ta tm tc)).toArray ((byteN c).cells (.slice ta tm tc)) (0, 0) _ (blk_below HT7'.out hS) (fun j u hu => by rw [Nat.zero_add]; simpa using hu) Tryz.underlying33 rfl re_size ?_
      exact hK _ X hS (Reg.Is.of_val rfl) (fun _ _ _ h => h)
    refine Reg.EachV.plain rfl (fun T X hS hk K hK => ?_) ?_
    · skip
      have g0 : T[0]? = some (.string s) := hk.old 0 (by kernel_rfl) rfl
      have hK := hK _ X hS (Reg.Is.of_val rfl) (fun _ _ _ h => h)
      clear hk
      go_simp
      exact hK
    refine Reg.EachV.plain rfl (fun T X hS hk K hK => ?_) ?_
    · skip
      have g45 : T[45]? = some (.string s) := hk.val 1 45 (by kernel_rfl) (by kernel_rfl) rfl
      have q1 := HIX.out X
      have q2 : (0 : Int) < (s.size : Int) := by omega
      have hK := hK _ X hS (Reg.Is.of_val rfl) (fun _ _ _ h => h)
      clear hk
      go_simp
      exact hK
    refine Reg.EachV.plain rfl (fun T X hS hk K hK => ?_) ?_
    · skip
      have g46 : T[46]? = some (.int .u8 (c : Nat)) := hk.val 2 46 (by kernel_rfl) (by kernel_rfl) rfl
      clear hk
      go_simp
      refine (oneB_any c hc2 X).mono ?_
      rintro e w1 ⟨rfl, hb⟩
      exact hK _ _ (below_thn hS (Nat.le_refl _) hb) (Reg.Is.of_val rfl) (fun _ _ _ h => h)
    refine Reg.EachV.plain rfl (fun T X hS hk K hK => ?_) ?_
    · skip
      have g44 : T[44]? = some ((byteN c).v (.slice ta tm tc)) := hk.val 0 44 (by kernel_rfl) (by kernel_rfl) rfl
      have g47 : T[47]? = some ((byteN c).v nilS) := hk.val 3 47 (by kernel_rfl) (by kernel_rfl) rfl
      clear hk
      go_simp
      refine (sameB_any c (fun _ => True) (.slice ta tm tc) X (HTI.out.below hS)).mono ?_
      rintro e w1 ⟨rfl, hb⟩
      exact hK _ _ (below_thn hS (Nat.le_refl _) hb) (Reg.Is.of_val rfl) (fun _ _ _ h => h)
    refine Reg.EachV.plain rfl (fun T X hS hk K hK => ?_) ?_
    · skip
      have g48 : T[48]? = some (.bool true) := hk.val 4 48 (by kernel_rfl) (by kernel_rfl) rfl
      have hK := hK _ X hS (Reg.Is.of_val rfl) (fun _ _ _ h => h)
      clear hk
      go_simp
      exact hK
    refine Reg.EachV.guarded 5 49 true rfl (by kernel_rfl) (by kernel_rfl) rfl (fun T X hS hk K hK => ?_) ?_
    · skip
      clear hk
      go_simp
      refine (HA.out X (below_thn HB7.out (Nat.le_refl _) hS)).mono ?_
      rintro e w1 ⟨rfl, hb⟩
      exact hK _ _ (below_thn hS (Nat.le_refl _) hb) (Reg.Is.of_val rfl) (fun _ _ _ h => h)
    refine Reg.EachV.plain rfl (fun T X hS hk K hK => ?_) ?_
    · skip
      have g49 : T[49]? = some (.bool true) := hk.val 5 49 (by kernel_rfl) (by kernel_rfl) rfl
      have g50 : T[50]? = some (.bool true) := hk.val 6 50 (by kernel_rfl) (by kernel_rfl) rfl
      have hK := hK _ X hS (Reg.Is.of_val rfl) (fun _ _ _ h => h)
      clear hk
      go_simp
      exact hK
    refine Reg.EachV.plain rfl (fun T X hS hk K hK => ?_) ?_
    · skip
      have g51 : T[51]? = some (.bool true) := hk.val 7 51 (by kernel_rfl) (by kernel_rfl) rfl
      have hK := hK _ X hS (Reg.Is.of_val rfl) (fun _ _ _ h => h)
      clear hk
      go_simp
      exact hK
    exact Reg.EachV.nil
  case rsZ =>
    intro u w1 hS hI
    have e0 : u 0 = (byteN c).v (.slice ta tm tc) := (hI 0 (by decide)).val rfl
    have e1 : u 1 = .string s := (hI 1 (by decide)).val rfl
    have e2 : u 2 = .int .u8 (c : Nat) := (hI 2 (by decide)).val rfl
    have e3 : u 3 = (byteN c).v nilS := (hI 3 (by decide)).val rfl
    have e4 : u 4 = .bool true := (hI 4 (by decide)).val rfl
    have e5 : u 5 = .bool true := (hI 5 (by decide)).val rfl
    have e6 : u 6 = .bool true := (hI 6 (by decide)).val rfl
    have e7 : u 7 = .bool true := (hI 7 (by decide)).val rfl
    have e8 : u 8 = .bool true := (hI 8 (by decide)).val rfl
    clear hI
    simp only [Reg.putAll, Act.put, List.setIfInBounds_toArray, List.set_cons_succ, List.set_cons_zero, Nat.zero_add, Nat.reduceAdd, e0, e1, e2, e3, e4, e5, e6, e7, e8]
    clear e0 e1 e2 e3 e4 e5 e6 e7 e8
    have HZ := Lib.hid (below_thn HB7.out (Nat.le_refl _) hS)
    clear hS
    go_wp2
    go_ret
    exact ⟨rfl, HZ.out⟩
set_option maxRecDepth 100000 in
set_option maxHeartbeats 16000000 in
theorem rbk_many (w : World) (s : ByteArray) (ext : Bool) (t : Nd) (l : List Nd) (hs1 : 1 < s.size) (hs9 : s.size ≤ 1000000) (q : ByteArray) (hq : q.size ≤ 256) (hk4 : t.kd = 4) (hl : t.kids = fo l) (hll : l.length = s.size) (hlk : ∀ k (h : k < s.size), l[k]? = some (byteN (s[k].toNat : Nat)))
    (HQ : Hid (Calls Tryz.prog 21 #[.string s, .bool ext] w fun e w' => e = .returned (.string q) ∧ Below w.heap.size w w'))
    (HP : Hid (∀ w1 cap W2, Below w.heap.size w w1 → Sl W2 (.slice (some ⟨w1.heap.size, 0, none⟩) q.size cap) (bys q) → Below w1.heap.size w1 W2 → Calls Tryz.prog 11 #[.slice (some ⟨w1.heap.size, 0, none⟩) q.size cap, .bool ext] W2 fun x w' => ∃ p, x = .returned (.tuple #[.pointer (some ⟨p, 0, none⟩), .nilIface]) ∧ Below W2.heap.size W2 w' ∧ (∀ X, Below w'.heap.size w' X → Calls Tryz.prog 17 #[.pointer (some ⟨p, 0, none⟩)] X fun x w' => x = .returned (.int .i64 0) ∧ w' = X) ∧ (∀ X, Below w'.heap.size w' X → Calls Tryz.prog 19 #[.pointer (some ⟨p, 0, none⟩)] X (ClP t X))))
    (HA : Hid (∀ X, Below w.heap.size w X → Calls Tryz.prog 14 #[] X fun x w' => x = .returned (.bool true) ∧ Below X.heap.size X w')) :
    Calls Tryz.prog 8 #[.string s, .bool ext] w fun x w' => x = .returned (.bool true) ∧ Below w.heap.size w w' := by
  have hse := str_full s (by omega)
  have hs2 : ((s.size : Int) == 1) = false := by simp; omega
  have hs3 : ¬ (s.size : Int) = 1 := by omega
  have hs4 : ¬ s.size = 1 := by omega
  have HLK := Lib.hid hlk
  have HL := Lib.hid hl
  have HLL := Lib.hid hll
  clear hl hll hlk
  have hq1 : (q.size : Int) ≤ 256 := by omega
  have hq2 : decide ((256 : Int) < (q.size : Int)) = false := decide_eq_false (by omega)
  have hq3 : decide (256 < q.size) = false := decide_eq_false (by omega)
  unfold ClP at HP
  go_enter Tryz.func8, Tryz.ntmps8
  go_wp2_with fail
  refine HQ.out.mono ?_
  rintro x w1 ⟨rfl, hb1⟩
  have HB1 := Lib.hid hb1
  clear hb1
  obtain ⟨qc, W2, hcv, hsl2, hb2⟩ := conv_sl w1 q (by omega)
  have HP2 := Lib.hid (HP.out w1 qc W2 HB1.out hsl2 hb2)
  have HB2 := Lib.hid (below_thn HB1.out (Nat.le_refl _) hb2)
  clear hsl2 hb2
  go_wp2_with fail
  refine HP2.out.mono ?_
  rintro x w3 ⟨p, rfl, hb3, hgr, htr⟩
  have HG3 := Lib.hid (hgr w3 (Below.refl _ _))
  have HT3 := Lib.hid (htr w3 (Below.refl _ _))
  have HB3 := Lib.hid (below_thn HB2.out (Nat.le_refl _) hb3)
  clear hb3 hgr htr hcv HP2
  go_wp2_with fail
  refine HG3.out.mono ?_
  rintro x w4 ⟨rfl, rfl⟩
  go_wp2_with fail
  refine HT3.out.mono ?_
  rintro x w5 ⟨ta, tm, tc, rfl, hti, hb5⟩
  have HB5 := Lib.hid (below_thn HB3.out (Nat.le_refl _) hb5)
  obtain ⟨W6, hW6⟩ : ∃ W6, W6 = w5.alloc (.cells zero9 33) := ⟨_, rfl⟩
  have hT6 : W6.heap[w5.heap.size]? = some (.cells zero9 33 (0, 0)) := by rw [hW6]; exact alloc_last _ _
  obtain ⟨W7, hW7⟩ : ∃ W7, W7 = W6.setRow w5.heap.size (t.cells (.slice ta tm tc)).toArray := ⟨_, rfl⟩
  have hb7 : Below w5.heap.size w5 W7 := by rw [hW7, hW6]; exact below_setRow ((Below.refl _ _).alloc (Nat.le_refl _) _) (Nat.le_refl _) _
  have hT7 : W7.heap[w5.heap.size]? = some (.cells (t.cells (.slice ta tm tc)).toArray 33 (0, 0)) := by rw [hW7]; exact setRow_selfR hT6 _
  have HB7 := Lib.hid (below_thn HB5.out (Nat.le_refl _) hb7)
  have HTI : Hid (t.In W7 (fun _ => True) (.slice ta tm tc)) := Lib.hid ((hti.below hb7).mono fun _ _ _ => trivial)
  have HT6 := Lib.hid hT6
  have HT7 := Lib.hid hT7
  have HW6 := Lib.hid hW6
  have HW7 := Lib.hid hW7
  have hz7 := lt_blkB hT7
  clear hb5 hti hW6 hT6 hW7 hT7 hb7
  have HNV : Hid (t.v (.slice ta tm tc) = .agg (t.cells (.slice ta tm tc)).toArray) := Lib.hid rfl
  unfold zero9 at HW6
  go_upto_region 8 with (first | (rw [← HW6.out]; refine wpList_store_re rfl _ _ rfl rfl w5.heap.size t ta tm tc rfl rfl _ HT6.out rfl ?_; rw [← HW7.out]) | fail)
  clear HT6 HW6 HW7
  have c0 : W7.cell? ⟨w5.heap.size, 0, none⟩ = some (.int .i64 4) := (Lib.cell_of_heap HT7.out 0).trans (by rw [← hk4]; rfl)
  have htm : tm = s.size := by rw [kid_len HL.out HTI.out, HLL.out]
  subst htm
  have c8 : W7.cell? ⟨w5.heap.size, 8, none⟩ = some (.slice ta s.size tc) := (Lib.cell_of_heap HT7.out 8).trans rfl
  have C8 := Lib.hid c8
  have HKD : Hid (∀ k (h : k < s.size), ∃ kg kcap cur kv, Value.slice ta s.size tc = .slice (some ⟨kg, 0, none⟩) s.size kcap ∧ kg < W7.heap.size ∧ W7.heap[kg]? = some (.cells cur 33 (0, 0)) ∧ (byteN (s[k].toNat : Nat)).In W7 (fun _ => True) kv ∧ (∀ i u, ((byteN (s[k].toNat : Nat)).cells kv)[i]? = some u → cur[k * 9 + i]? = some u)) := Lib.hid (fun k h => by
    have hti := HTI.out
    rw [← HLL.out] at hti ⊢
    have hkl : k < l.length := by rw [HLL.out]; exact h
    obtain ⟨kg, kcap, cur, kv, e1, e2, e3, e4, e5⟩ := kid_at HL.out hti k hkl
    have e6 : l[k] = byteN (s[k].toNat : Nat) := by
      have := HLK.out k h
      rw [List.getElem?_eq_getElem hkl] at this
      exact Option.some.inj this
    rw [e6] at e4 e5
    exact ⟨kg, kcap, cur, kv, e1, e2, e3, e4, e5⟩)
  clear HTI
  go_upto_region 13 with fail
  clear c0 c8
  go_loopg [9, 66] (s.size) (fun g s9 i wr => ∃ k : Nat, g = s.size - k ∧ k ≤ s.size ∧ i = .int .i64 k ∧ Aside (Below W7.heap.size W7 wr))
  case atStart => exact ⟨0, by omega, Nat.zero_le _, rfl, Below.refl _ _⟩
  case round =>
    obtain ⟨k, rfl, hk, rfl, hal⟩ := hrel
    have hbr := hal.out
    clear hal
    have hwz := hbr.size
    by_cases hlt : k < s.size
    · obtain ⟨ga, pa, cura, kva, hea, hgwa, hcura, hia, hca⟩ := HKD.out k hlt
      simp only [Value.slice.injEq] at hea
      obtain ⟨rfl, _, rfl⟩ := hea
      have hlti : (k : Int) < (s.size : Int) := by omega
      have hk0 : (0 : Int) ≤ (k : Int) := by omega
      have hkn : ¬ ((k : Int) < 0) := by omega
      obtain ⟨xa, xm, xc, rfl⟩ := hia.shape
      have hb256 := (str_byte s k hlt).1
      have HIX : Hid (∀ X : World, (Instr.index 9 (.string s) (.int .i64 (k : Int))).run Tryz.prog X = .ok (.int .u8 (s[k].toNat : Nat)) X) := Lib.hid (fun X => by
        rw [run_index_string X 9 s .i64 k Tryz.underlying9, dif_pos ⟨hk0, hlti⟩]
        rfl)
      obtain ⟨c, hcc⟩ : ∃ c : Nat, c = s[k].toNat := ⟨_, rfl⟩
      rw [← hcc] at hca hia hb256 HIX
      have HCA : Hid (∀ X, Below W7.heap.size W7 X → X.heap[ga]? = some (.cells cura 33 (0, 0))) := Lib.hid (fun X hX => (hX.block ga (by omega)).trans hcura)
      have HLA := Lib.hid hca
      have HIA := Lib.hid hia
      have H0 : Hid (Below W7.heap.size W7 wr.drew) := Lib.hid hbr.drew
      clear hia hca hcura hgwa hbr hcc
      go_upto_region 15 with fail
      refine Reg.wp_region_vals (fun X => Below W7.heap.size W7 X) (fun j => ([some (.pointer (some ⟨w5.heap.size, 8, none⟩)), some (.slice (some ⟨ga, 0, none⟩) s.size tc), some (.int .i64 (k : Int)), some (.pointer (some ⟨ga, k * 9, none⟩)), some ((byteN c).v (.slice xa xm xc)), some (.string s), some (.int .i64 (k : Int)), some (.int .u8 (c : Nat)), some ((byteN c).v nilS), some (.bool true), some (.bool false)] : List (Option Value)).getD j none) (fun _ _ _ => True) (by kernel_rfl) (by kernel_rfl) (by kernel_rfl) (by kernel_rfl) ?rs0 ?rsE ?rsZ
      case rs0 => exact H0.out
      case rsE =>
        refine Reg.EachV.plain rfl (fun T X hS hk K hK => ?_) ?_
        · skip
          have g8 : T[8]? = some (.pointer (some ⟨w5.heap.size, 0, none⟩)) := hk.old 8 (by kernel_rfl) rfl
          have hK := hK _ X hS (Reg.Is.of_val rfl) (fun _ _ _ h => h)
          clear hk
          go_simp
          exact hK
        refine Reg.EachV.plain rfl (fun T X hS hk K hK => ?_) ?_
        · skip
          have g69 : T[69]? = some (.pointer (some ⟨w5.heap.size, 8, none⟩)) := hk.val 0 69 (by kernel_rfl) (by kernel_rfl) rfl
          have c8 := (hS.cell (World.block_lt_of_cell? _ _ C8.out)).trans C8.out
          have hzx := hS.size
          have hK := hK _ X hS (Reg.Is.of_val rfl) (fun _ _ _ h => h)
          clear hk
          go_simp
          exact hK
        refine Reg.EachV.plain rfl (fun T X hS hk K hK => ?_) ?_
        · skip
          have g9 : T[9]? = some (.int .i64 (k : Int)) := hk.old 9 (by kernel_rfl) rfl
          have hK := hK _ X hS (Reg.Is.of_val rfl) (fun _ _ _ h => h)
          clear hk
          go_simp
          exact hK
        refine Reg.EachV.plain rfl (fun T X hS hk K hK => ?_) ?_
        · skip
          have g70 : T[70]? = some (.slice (some ⟨ga, 0, none⟩) s.size tc) := hk.val 1 70 (by kernel_rfl) (by kernel_rfl) rfl
          have g71 : T[71]? = some (.int .i64 (k : Int)) := hk.val 2 71 (by kernel_rfl) (by kernel_rfl) rfl
          have hK := hK _ X hS (Reg.Is.of_val rfl) (fun _ _ _ h => h)
          clear hk
          go_simp
          exact hK
        refine Reg.EachV.plain rfl (fun T X hS hk K hK => ?_) ?_
        · skip
          have g72 : T[72]? = some (.pointer (some ⟨ga, k * 9, none⟩)) := hk.val 3 72 (by kernel_rfl) (by kernel_rfl) rfl
          have hcx := HCA.out X hS
          refine wp_load_part 33 _ rfl ga (k * 9) (by simp [Act.eval, g72]) _ _ _ (0, 0) _ hcx HLA.out Tryz.underlying33 rfl re_size ?_
          exact hK _ X hS (Reg.Is.of_val rfl) (fun _ _ _ h => h)
        refine Reg.EachV.plain rfl (fun T X hS hk K hK => ?_) ?_
        · skip
          have g0 : T[0]? = some (.string s) := hk.old 0 (by kernel_rfl) rfl
          have hK := hK _ X hS (Reg.Is.of_val rfl) (fun _ _ _ h => h)
          clear hk
          go_simp
          exact hK
        refine Reg.EachV.plain rfl (fun T X hS hk K hK => ?_) ?_
        · skip
          have g9 : T[9]? = some (.int .i64 (k : Int)) := hk.old 9 (by kernel_rfl) rfl
          have hK := hK _ X hS (Reg.Is.of_val rfl) (fun _ _ _ h => h)
          clear hk
          go_simp
          exact hK
        refine Reg.EachV.plain rfl (fun T X hS hk K hK => ?_) ?_
        · skip
          have g74 : T[74]? = some (.string s) := hk.val 5 74 (by kernel_rfl) (by kernel_rfl) rfl
          have g75 : T[75]? = some (.int .i64 (k : Int)) := hk.val 6 75 (by kernel_rfl) (by kernel_rfl) rfl
          have q1 := HIX.out X
          have hK := hK _ X hS (Reg.Is.of_val rfl) (fun _ _ _ h => h)
          clear hk
          go_simp
          exact hK
        refine Reg.EachV.plain rfl (fun T X hS hk K hK => ?_) ?_
        · skip
          have g76 : T[76]? = some (.int .u8 (c : Nat)) := hk.val 7 76 (by kernel_rfl) (by kernel_rfl) rfl
          clear hk
          go_simp
          refine (oneB_any c hb256 X).mono ?_
          rintro e w1 ⟨rfl, hb⟩
          exact hK _ _ (below_thn hS (Nat.le_refl _) hb) (Reg.Is.of_val rfl) (fun _ _ _ h => h)
        refine Reg.EachV.plain rfl (fun T X hS hk K hK => ?_) ?_
        · skip
          have g73 : T[73]? = some ((byteN c).v (.slice xa xm xc)) := hk.val 4 73 (by kernel_rfl) (by kernel_rfl) rfl
          have g77 : T[77]? = some ((byteN c).v nilS) := hk.val 8 77 (by kernel_rfl) (by kernel_rfl) rfl
          clear hk
          go_simp
          refine (sameB_any c (fun _ => True) (.slice xa xm xc) X (HIA.out.below hS)).mono ?_
          rintro e w1 ⟨rfl, hb⟩
          exact hK _ _ (below_thn hS (Nat.le_refl _) hb) (Reg.Is.of_val rfl) (fun _ _ _ h => h)
        refine Reg.EachV.plain rfl (fun T X hS hk K hK => ?_) ?_
        · skip
          have g78 : T[78]? = some (.bool true) := hk.val 9 78 (by kernel_rfl) (by kernel_rfl) rfl
          have hK := hK _ X hS (Reg.Is.of_val rfl) (fun _ _ _ h => h)
          clear hk
          go_simp
          exact hK
        exact Reg.EachV.nil
      case rsZ =>
        intro u w1 hS hI
        have e0 : u 0 = .pointer (some ⟨w5.heap.size, 8, none⟩) := (hI 0 (by decide)).val rfl
        have e1 : u 1 = .slice (some ⟨ga, 0, none⟩) s.size tc := (hI 1 (by decide)).val rfl
        have e2 : u 2 = .int .i64 (k : Int) := (hI 2 (by decide)).val rfl
        have e3 : u 3 = .pointer (some ⟨ga, k * 9, none⟩) := (hI 3 (by decide)).val rfl
        have e4 : u 4 = (byteN c).v (.slice xa xm xc) := (hI 4 (by decide)).val rfl
        have e5 : u 5 = .string s := (hI 5 (by decide)).val rfl
        have e6 : u 6 = .int .i64 (k : Int) := (hI 6 (by decide)).val rfl
        have e7 : u 7 = .int .u8 (c : Nat) := (hI 7 (by decide)).val rfl
        have e8 : u 8 = (byteN c).v nilS := (hI 8 (by decide)).val rfl
        have e9 : u 9 = .bool true := (hI 9 (by decide)).val rfl
        have e10 : u 10 = .bool false := (hI 10 (by decide)).val rfl
        clear hI
        simp only [Reg.putAll, Act.put, List.setIfInBounds_toArray, List.set_cons_succ, List.set_cons_zero, Nat.zero_add, Nat.reduceAdd, e0, e1, e2, e3, e4, e5, e6, e7, e8, e9, e10]
        clear e0 e1 e2 e3 e4 e5 e6 e7 e8 e9 e10
        have HS := Lib.hid hS
        clear hS
        go_wp2_with fail
        go_roundg (s.size - (k + 1))
        case measure => omega
        case rel => exact ⟨k + 1, rfl, by omega, by simp, HS.out⟩
    · obtain rfl : k = s.size := by omega
      have hnl' : ¬ (s.size : Int) < (s.size : Int) := by omega
      have HZ := Lib.hid (below_thn HB7.out (Nat.le_refl _) hbr)
      clear hbr
      go_wp2_with fail
      refine (HA.out _ HZ.out).mono ?_
      rintro x w9 ⟨rfl, hb9⟩
      have HZ9 := Lib.hid (below_thn HZ.out (Nat.le_refl _) hb9)
      clear hb9
      go_wp2
      go_ret
      exact ⟨rfl, HZ9.out⟩
end Go.Proofs.YtlkcopjjeknbkaaGreatDoor
/- RetextBack: opened. -/
namespace Go.Proofs.YtlkcopjjeknbkaaGreatDoor
open Go.RowKit

theorem quoR_ge (ext : Bool) : ∀ l : List Int, l.length ≤ (quoR ext l).length
  | [] => by simp
  | c :: l => by
    rw [quoR_cons, List.length_append, List.length_cons]
    have := quo1_pos ext c
    have := quoR_ge ext l
    omega
theorem rback_any (cf : ByteArray → (Nat → Bool) × Bool) (hcf : ClassOk cf) (e : Nat → Addr) (s : ByteArray) (ext : Bool) (w : World) (hs : s.size ≤ 1048576) (he : Es w w.heap.size e) (ht : Ety w) (hT : TZ w) (hD : DB w) (hP : TPr w) :
    Calls Tryz.prog 8 #[.string s, .bool ext] w fun x w' => x = .returned (.bool true) ∧ Below w.heap.size w w' := by
  have HA : Hid (∀ X, Below w.heap.size w X → Calls Tryz.prog 14 #[] X fun x w' => x = .returned (.bool true) ∧ Below X.heap.size X w') := Lib.hid (fun X hX => awake8_any cf hcf e X ⟨(he.below hX).var, Nat.lt_of_lt_of_le he.low hX.size, Nat.le_refl _⟩ (ht.below hX) (hT.below hX) (hD.below hX) (hP.below hX))
  have HQ := Lib.hid (rquote_any s ext w (by omega))
  by_cases h0 : s.size = 0
  · exact rbk_nil w s ext h0 _ HQ HA
  have hne : bys s ≠ [] := fun h => h0 (by rw [← bys_length, h]; rfl)
  have hqb : Byt (quoR ext (bys s)) := quoR_byt (bys_byt s) ext
  have hqz : (ofBys (quoR ext (bys s))).size = (quoR ext (bys s)).length := ofBys_size _
  by_cases h256 : 256 < (ofBys (quoR ext (bys s))).size
  · exact rbk_long w s ext h0 _ h256 HQ HA
  have hq : (ofBys (quoR ext (bys s))).size ≤ 256 := by omega
  obtain ⟨k, hk⟩ := parse_quo cf ext (bys s) hne (by rw [← hqz]; exact hq)
  generalize htt : joinN 4 ((bys s).map fun c => setN (mem [c])) = t at hk
  have hf := parseN_fit hqb hk
  have hsz : t.sz ≤ 1000000 := by have := hf.2; omega
  have HP : Hid (∀ w1 cap W2, Below w.heap.size w w1 → Sl W2 (.slice (some ⟨w1.heap.size, 0, none⟩) (ofBys (quoR ext (bys s))).size cap) (bys (ofBys (quoR ext (bys s)))) → Below w1.heap.size w1 W2 → Calls Tryz.prog 11 #[.slice (some ⟨w1.heap.size, 0, none⟩) (ofBys (quoR ext (bys s))).size cap, .bool ext] W2 fun x w' => ∃ p, x = .returned (.tuple #[.pointer (some ⟨p, 0, none⟩), .nilIface]) ∧ Below W2.heap.size W2 w' ∧ (∀ X, Below w'.heap.size w' X → Calls Tryz.prog 17 #[.pointer (some ⟨p, 0, none⟩)] X fun x w' => x = .returned (.int .i64 0) ∧ w' = X) ∧ (∀ X, Below w'.heap.size w' X → Calls Tryz.prog 19 #[.pointer (some ⟨p, 0, none⟩)] X (ClP t X))) := Lib.hid fun w1 cap W2 hb1 hsl hb2 => by
    have hb := below_thn hb1 (Nat.le_refl _) hb2
    have hbig : w1.heap.size < W2.heap.size := by
      have hne2 : 0 < (bys (ofBys (quoR ext (bys s)))).length := by
        rw [bys_length, hqz]
        rcases Nat.eq_zero_or_pos (quoR ext (bys s)).length with g | g
        · have := List.length_eq_zero_iff.1 g
          rw [this] at hk
          exact absurd hk (parseN_nil cf ext _ _ _ _)
        · exact g
      rcases hsl.2.2 with ⟨e0, _⟩ | ⟨b, o, c, e0, _, _, hr⟩
      · rw [e0] at hne2; exact absurd hne2 (by simp)
      · simp only [Value.slice.injEq, Option.some.injEq, Addr.mk.injEq] at e0
        have h1 := World.block_lt_of_cell? _ _ (hr 0 hne2)
        rw [← e0.1.1] at h1
        exact h1
    have he2 : Es W2 W2.heap.size e := ⟨(he.below hb).var, by have := he.low; have := hb.size; omega, Nat.le_refl _⟩
    rw [bys_ofBys hqb] at hsl
    refine (parse_any cf hcf e _ _ ext _ _ W2 he2 (ht.below hb) hsl (fun x o n cap hv => ?_) hk).mono ?_
    · simp only [Value.slice.injEq, Option.some.injEq, Addr.mk.injEq] at hv
      omega
    · rintro x w' ⟨p, a, m, c, rfl, hp, hrow, hin, hbw⟩
      refine ⟨p, rfl, hbw, fun X hX => ?_, fun X hX => ?_⟩
      · exact Groups_at X p t (.slice a m c) 0 ext (blk_below hrow hX)
      · exact Tree_at (fun b => W2.heap.size ≤ b) X p t (.slice a m c) 0 ext (blk_below hrow hX) hsz (hin.below hX)
  by_cases h1 : s.size = 1
  · have hb := (str_byte s 0 (by omega)).2
    refine rbk_one w s ext t h1 _ hq (s[0]'(by omega)).toNat (s[0]'(by omega)).toNat_lt rfl ?_ HQ HP HA
    have hl : bys s = [((s[0]'(by omega)).toNat : Int)] := by
      apply List.ext_getElem?
      intro i
      cases i with
      | zero => simpa using hb
      | succ i => rw [List.getElem?_eq_none (by rw [bys_length]; omega)]; simp
    rw [← htt, hl]
    rfl
  · have hj : t = ⟨4, noP, 0, 0, 0, fo ((bys s).map fun c => setN (mem [c]))⟩ := by
      rw [← htt]
      have h2 : 2 ≤ ((bys s).map fun c => setN (mem [c])).length := by rw [List.length_map, bys_length]; omega
      generalize (bys s).map (fun c => setN (mem [c])) = l at h2 ⊢
      match l, h2 with
      | _ :: _ :: _, _ => rfl
    refine rbk_many w s ext t ((bys s).map fun c => setN (mem [c])) (by omega) (by have := quoR_ge ext (bys s); rw [bys_length] at this; omega) _ hq (by rw [hj]) (by rw [hj]) (by rw [List.length_map, bys_length]) (fun k hk => ?_) HQ HP HA
    rw [List.getElem?_map, (str_byte s k hk).2]
    rfl
set_option maxRecDepth 100000 in
theorem retextBack_open {H : Type} {enc : TypeId × Value → H} {d0 d1 : DataW H} {p0 p1 : List MemPlace} {q : Prop} (W : World) (base : Nat) (v0 v1 : Value)
    (h0 : DataW.Trod enc Tryz.prog W 0 (fun _ => true) true 9 v0 d0 p0) (h1 : DataW.Trod enc Tryz.prog W 0 (fun _ => true) true 4 v1 d1 p1)
    (k0 : Value.okWide Tryz.prog W .any base 9 v0) (k1 : Value.okWide Tryz.prog W .any base 4 v1) (_ : q)
    (hk : Rows.uptoSmall H [d0, d1] = true) (hL : laidMetH Tryz.prog Rows.retextBackUptoRow.laid W) :
    Calls Tryz.prog 8 #[v0, v1] W fun e W' => e = .returned (.bool true) ∧ Below W.heap.size W W' := by
  obtain ⟨s, rfl, rfl, _, _⟩ := Go.ChangeMaps.open_string Tryz.underlying9 k0 h0
  obtain ⟨g, rfl, rfl, _⟩ := RowKit.open_bool Tryz.underlying4 k1 h1
  obtain ⟨e, he, _, ht, hT, hD, hP⟩ := re_of_laid (by kernel_rfl) (by kernel_rfl) (by kernel_rfl) (by kernel_rfl) hL
  obtain ⟨cf, hcf⟩ := classes_ok
  have hb : Rows.uptoBulkAll [DataW.lit (H := H) (.string s.data.toList), DataW.lit (H := H) (.bool g)] ≤ 1048576 := of_decide_eq_true hk
  simp only [Rows.uptoBulkAll, Rows.uptoBulk] at hb
  have hss : s.data.toList.length = s.size := by simp
  exact rback_any cf hcf e s g W (by omega) he ht hT hD hP
end Go.Proofs.YtlkcopjjeknbkaaGreatDoor
