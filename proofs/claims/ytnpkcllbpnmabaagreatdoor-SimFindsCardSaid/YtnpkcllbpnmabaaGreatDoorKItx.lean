import Derived.Test.YtnpkcllbpnmabaaGreatDoorSeErr
import Derived.Test.YtnpkcllbpnmabaaGreatDoorKMk
import Derived.Test.YtnpkcllbpnmabaaGreatDoorKRdr
namespace Go.Proofs.YtnpkcllbpnmabaaGreatDoor
set_option maxHeartbeats 8000000
set_option maxRecDepth 100000
open Go.RowKit
inductive IR where
 | bad (pos : Nat)
 | cls (p : Nat → Bool) (next : Nat)
 | byt (c : Int) (next : Nat)
def itemR (cf : ByteArray → (Nat → Bool) × Bool) (s : ByteArray) (glob : Bool) (k : Nat) : IR :=
 if atB s k = 91 ∧ atB s (k + 1) = 58 then
  match cnE s (s.size - (k + 2)) (k + 2) with
  | none => .bad k
  | some e => if (cf (s.extract (k + 2) e)).2 = true then .cls (cf (s.extract (k + 2) e)).1 (e + 2) else .bad k
 else if atB s k = 91 ∧ (atB s (k + 1) = 46 ∨ atB s (k + 1) = 61) then .bad k
 else if glob = true ∧ atB s k = 92 then (if k + 1 < s.size then .byt (atB s (k + 1)) (k + 2) else .bad (k + 1))
 else if k < s.size then .byt (atB s k) (k + 1) else .bad k
structure ClassOk (cf : ByteArray → (Nat → Bool) × Bool) : Prop where
 no : ∀ nm, (cf nm).2 = false → ∀ c, c < 256 → (cf nm).1 c = false
 empty : (cf ⟨#[]⟩).2 = false
 prog : ∀ nm w, Calls Tryz.prog 108 #[.string nm] w fun e w' => e = .returned (.tuple #[SV (cf nm).1, .bool (cf nm).2]) ∧ Below w.heap.size w w'
theorem ErrS.set {w : World} {B : Nat} {e : Nat → Addr} {lg : Int} {c : Nat} {p : Int} {v : Value} (h : ErrS w B e lg c p v) (g i : Nat) (x : Value) (hg : g < B) : ErrS (w.setCell ⟨g, i, none⟩ x) B e lg c p v :=
 h.kept (by simp) fun j hj _ => Below.heap_setCell _ _ _ _ (by simp; omega)
theorem itx_byte (cf : ByteArray → (Nat → Bool) × Bool) (hcf : ClassOk cf) (e : Nat → Addr) (rb cb : Nat) (s : ByteArray) (k ah : Nat) (lg : Int) (w : World) (he : Es w cb e) (h : Rdr w rb cb s k ah lg) (hlg : ¬ lg = 2) (hk : k < s.size) (n1 : ¬ (atB s k = 91 ∧ atB s (k + 1) = 58)) (n2 : ¬ (atB s k = 91 ∧ atB s (k + 1) = 46)) (n3 : ¬ (atB s k = 91 ∧ atB s (k + 1) = 61)) :
  Calls Tryz.prog 103 #[.pointer (some ⟨rb, 0, none⟩)] w fun x w' => x = .returned (.tuple #[IV (ah + k) false noP (atB s k), .nilIface]) ∧ Mv cb s (k + 1) w w' := by
 have HH := Lib.hid h
 have HE := Lib.hid he
 have HCF := Lib.hid hcf
 have HP : Hid (∀ (j : Nat) (w' : World), Rdr w' rb cb s j ah lg → Calls Tryz.prog 90 #[.pointer (some ⟨rb, 0, none⟩)] w' fun e w'' => e = .returned (.int .i64 (ah + j : Nat)) ∧ Mv cb s j w' w'') := Lib.hid fun j w' h' => place_any rb cb s j ah lg w' h'
 have HT58 : Hid (∀ w', Cur w' cb s k → Calls Tryz.prog 77 #[.pointer (some ⟨cb, 0, none⟩), .string ⟨#[91, 58]⟩] w' fun e w'' => e = .returned (.bool false) ∧ Mv cb s k w' w'') := Lib.hid fun w' h' => take2_no cb k s 91 58 w' h' (by decide) (by decide) n1
 have HT46 : Hid (∀ w', Cur w' cb s k → Calls Tryz.prog 77 #[.pointer (some ⟨cb, 0, none⟩), .string ⟨#[91, 46]⟩] w' fun e w'' => e = .returned (.bool false) ∧ Mv cb s k w' w'') := Lib.hid fun w' h' => take2_no cb k s 91 46 w' h' (by decide) (by decide) n2
 have HT61 : Hid (∀ w', Cur w' cb s k → Calls Tryz.prog 77 #[.pointer (some ⟨cb, 0, none⟩), .string ⟨#[91, 61]⟩] w' fun e w'' => e = .returned (.bool false) ∧ Mv cb s k w' w'') := Lib.hid fun w' h' => take2_no cb k s 91 61 w' h' (by decide) (by decide) n3
 have HN : Hid (∀ w', Cur w' cb s k → Calls Tryz.prog 71 #[.pointer (some ⟨cb, 0, none⟩)] w' fun e w'' => e = .returned (.tuple #[.int .u8 (atB s k), .bool true]) ∧ Mv cb s (k + 1) w' w'') := Lib.hid fun w' h' => by
  have := next_any cb k s w' h'
  rw [if_pos hk, decide_eq_true hk] at this
  exact this
 clear hk n1 n2 n3
 generalize atB s k = c at *
 clear h he hcf 
 go_enter Tryz.func103, Tryz.ntmps103
 go_wp2_with fail
 obtain ⟨W, hW⟩ : ∃ W, W = w.alloc (.cells #[.int .i64 0, .bool false, .int .u64 0, .int .u64 0, .int .u64 0, .int .u64 0, .int .u8 0] 193) := ⟨_, rfl⟩
 rw [← hW]
 have HMW : Hid (Mv cb s k w W) := Lib.hid (by rw [hW]; exact Mv.below HH.out.2.1 ((Below.refl _ _).alloc (Nat.le_refl _) _))
 have HG0 : Hid (W.heap[w.heap.size]? = some (.cells #[.int .i64 0, .bool false, .int .u64 0, .int .u64 0, .int .u64 0, .int .u64 0, .int .u8 0] 193)) := Lib.hid (by rw [hW]; exact alloc_last w _)
 have hsz : w.heap.size < W.heap.size := by rw [hW]; simp
 clear hW
 have hcb := HH.out.lt.2
 have HR0 := Lib.hid (HH.out.mv HMW.out)
 have HM0 := Lib.hid (Mv.refl HR0.out.2.1)
 refine (HP.out k _ HR0.out).mono ?_
 rintro e w1 ⟨rfl, hm1⟩
 have HM1 := Lib.hid (HM0.out.trans hm1)
 have HR1 := Lib.hid (HR0.out.mv HM1.out)
 obtain ⟨a10, a11, a12, a1z⟩ := HR1.out.facts
 have hz1 : w.heap.size < w1.heap.size := Nat.lt_of_lt_of_le hsz HM1.out.1.size
 clear hm1
 go_wp2_with fail
 refine (HT58.out _ HR1.out.2.1).mono ?_
 rintro e w2 ⟨rfl, hm2⟩
 have HM2 := Lib.hid (HM1.out.trans hm2)
 have HR2 := Lib.hid (HR0.out.mv HM2.out)
 obtain ⟨a20, a21, a22, a2z⟩ := HR2.out.facts
 have hz2 : w.heap.size < w2.heap.size := Nat.lt_of_lt_of_le hsz HM2.out.1.size
 clear hm2
 go_wp2_with fail
 refine (HT46.out _ HR2.out.2.1).mono ?_
 rintro e w3 ⟨rfl, hm3⟩
 have HM3 := Lib.hid (HM2.out.trans hm3)
 have HR3 := Lib.hid (HR0.out.mv HM3.out)
 obtain ⟨a30, a31, a32, a3z⟩ := HR3.out.facts
 have hz3 : w.heap.size < w3.heap.size := Nat.lt_of_lt_of_le hsz HM3.out.1.size
 clear hm3
 go_wp2_with fail
 refine (HT61.out _ HR3.out.2.1).mono ?_
 rintro e w4 ⟨rfl, hm4⟩
 have HM4 := Lib.hid (HM3.out.trans hm4)
 have HR4 := Lib.hid (HR0.out.mv HM4.out)
 obtain ⟨a40, a41, a42, a4z⟩ := HR4.out.facts
 have hz4 : w.heap.size < w4.heap.size := Nat.lt_of_lt_of_le hsz HM4.out.1.size
 clear hm4
 go_wp2_with fail
 refine (HN.out _ HR4.out.2.1).mono ?_
 rintro e w5 ⟨rfl, hm5⟩
 have HM5 := Lib.hid (HM4.out.trans hm5)
 have HR5 := Lib.hid (HR0.out.mv HM5.out)
 obtain ⟨a50, a51, a52, a5z⟩ := HR5.out.facts
 have hz5 : w.heap.size < w5.heap.size := Nat.lt_of_lt_of_le hsz HM5.out.1.size
 clear hm5
 have hg := (HM5.out.2.2 w.heap.size hsz (by omega)).trans HG0.out
 obtain ⟨⟨c0, c1, c2, c3, c4, c5, c6⟩, ⟨g0, g1, g2, g3, g4, g5, g6⟩, hgz⟩ := cells7 hg
 clear hg
 go_wp2
 refine bodyPost_ret (by simp [results, Tryz.results103, go_sem, c0, c1, c2, c3, c4, c5, c6]; rfl) rfl ⟨by unfold IV; rw [item_no.1, item_no.2.1, item_no.2.2.1, item_no.2.2.2]; rfl, (Mv.setOther (Mv.setOther (Mv.setOther (Mv.setOther (Mv.setOther (Mv.setOther (Mv.setOther (HMW.out.trans HM5.out) w.heap.size 0 _ (Nat.le_refl _) hcb) w.heap.size 1 _ (Nat.le_refl _) hcb) w.heap.size 2 _ (Nat.le_refl _) hcb) w.heap.size 3 _ (Nat.le_refl _) hcb) w.heap.size 4 _ (Nat.le_refl _) hcb) w.heap.size 5 _ (Nat.le_refl _) hcb) w.heap.size 6 _ (Nat.le_refl _) hcb)⟩
theorem itx_glob (cf : ByteArray → (Nat → Bool) × Bool) (hcf : ClassOk cf) (e : Nat → Addr) (rb cb : Nat) (s : ByteArray) (k ah : Nat) (lg : Int) (w : World) (he : Es w cb e) (h : Rdr w rb cb s k ah lg) (hlg : lg = 2) (hk : k < s.size) (n1 : ¬ (atB s k = 91 ∧ atB s (k + 1) = 58)) (n2 : ¬ (atB s k = 91 ∧ atB s (k + 1) = 46)) (n3 : ¬ (atB s k = 91 ∧ atB s (k + 1) = 61)) (h2 : ¬ atB s k = 92) :
  Calls Tryz.prog 103 #[.pointer (some ⟨rb, 0, none⟩)] w fun x w' => x = .returned (.tuple #[IV (ah + k) false noP (atB s k), .nilIface]) ∧ Mv cb s (k + 1) w w' := by
 have HH := Lib.hid h
 have HE := Lib.hid he
 have HCF := Lib.hid hcf
 have HP : Hid (∀ (j : Nat) (w' : World), Rdr w' rb cb s j ah lg → Calls Tryz.prog 90 #[.pointer (some ⟨rb, 0, none⟩)] w' fun e w'' => e = .returned (.int .i64 (ah + j : Nat)) ∧ Mv cb s j w' w'') := Lib.hid fun j w' h' => place_any rb cb s j ah lg w' h'
 have HT58 : Hid (∀ w', Cur w' cb s k → Calls Tryz.prog 77 #[.pointer (some ⟨cb, 0, none⟩), .string ⟨#[91, 58]⟩] w' fun e w'' => e = .returned (.bool false) ∧ Mv cb s k w' w'') := Lib.hid fun w' h' => take2_no cb k s 91 58 w' h' (by decide) (by decide) n1
 have HT46 : Hid (∀ w', Cur w' cb s k → Calls Tryz.prog 77 #[.pointer (some ⟨cb, 0, none⟩), .string ⟨#[91, 46]⟩] w' fun e w'' => e = .returned (.bool false) ∧ Mv cb s k w' w'') := Lib.hid fun w' h' => take2_no cb k s 91 46 w' h' (by decide) (by decide) n2
 have HT61 : Hid (∀ w', Cur w' cb s k → Calls Tryz.prog 77 #[.pointer (some ⟨cb, 0, none⟩), .string ⟨#[91, 61]⟩] w' fun e w'' => e = .returned (.bool false) ∧ Mv cb s k w' w'') := Lib.hid fun w' h' => take2_no cb k s 91 61 w' h' (by decide) (by decide) n3
 have HT4 : Hid (∀ w', Cur w' cb s k → Calls Tryz.prog 77 #[.pointer (some ⟨cb, 0, none⟩), .string ⟨#[92]⟩] w' fun e w'' => e = .returned (.bool false) ∧ Mv cb s k w' w'') := Lib.hid fun w' h' => take1_no cb k s 92 w' h' (by decide) h2
 have HN : Hid (∀ w', Cur w' cb s k → Calls Tryz.prog 71 #[.pointer (some ⟨cb, 0, none⟩)] w' fun e w'' => e = .returned (.tuple #[.int .u8 (atB s k), .bool true]) ∧ Mv cb s (k + 1) w' w'') := Lib.hid fun w' h' => by
  have := next_any cb k s w' h'
  rw [if_pos hk, decide_eq_true hk] at this
  exact this
 clear hk h2 n1 n2 n3
 generalize atB s k = c at *
 clear h he hcf 
 go_enter Tryz.func103, Tryz.ntmps103
 go_wp2_with fail
 obtain ⟨W, hW⟩ : ∃ W, W = w.alloc (.cells #[.int .i64 0, .bool false, .int .u64 0, .int .u64 0, .int .u64 0, .int .u64 0, .int .u8 0] 193) := ⟨_, rfl⟩
 rw [← hW]
 have HMW : Hid (Mv cb s k w W) := Lib.hid (by rw [hW]; exact Mv.below HH.out.2.1 ((Below.refl _ _).alloc (Nat.le_refl _) _))
 have HG0 : Hid (W.heap[w.heap.size]? = some (.cells #[.int .i64 0, .bool false, .int .u64 0, .int .u64 0, .int .u64 0, .int .u64 0, .int .u8 0] 193)) := Lib.hid (by rw [hW]; exact alloc_last w _)
 have hsz : w.heap.size < W.heap.size := by rw [hW]; simp
 clear hW
 have hcb := HH.out.lt.2
 have HR0 := Lib.hid (HH.out.mv HMW.out)
 have HM0 := Lib.hid (Mv.refl HR0.out.2.1)
 refine (HP.out k _ HR0.out).mono ?_
 rintro e w1 ⟨rfl, hm1⟩
 have HM1 := Lib.hid (HM0.out.trans hm1)
 have HR1 := Lib.hid (HR0.out.mv HM1.out)
 obtain ⟨a10, a11, a12, a1z⟩ := HR1.out.facts
 have hz1 : w.heap.size < w1.heap.size := Nat.lt_of_lt_of_le hsz HM1.out.1.size
 clear hm1
 go_wp2_with fail
 refine (HT58.out _ HR1.out.2.1).mono ?_
 rintro e w2 ⟨rfl, hm2⟩
 have HM2 := Lib.hid (HM1.out.trans hm2)
 have HR2 := Lib.hid (HR0.out.mv HM2.out)
 obtain ⟨a20, a21, a22, a2z⟩ := HR2.out.facts
 have hz2 : w.heap.size < w2.heap.size := Nat.lt_of_lt_of_le hsz HM2.out.1.size
 clear hm2
 go_wp2_with fail
 refine (HT46.out _ HR2.out.2.1).mono ?_
 rintro e w3 ⟨rfl, hm3⟩
 have HM3 := Lib.hid (HM2.out.trans hm3)
 have HR3 := Lib.hid (HR0.out.mv HM3.out)
 obtain ⟨a30, a31, a32, a3z⟩ := HR3.out.facts
 have hz3 : w.heap.size < w3.heap.size := Nat.lt_of_lt_of_le hsz HM3.out.1.size
 clear hm3
 go_wp2_with fail
 refine (HT61.out _ HR3.out.2.1).mono ?_
 rintro e w4 ⟨rfl, hm4⟩
 have HM4 := Lib.hid (HM3.out.trans hm4)
 have HR4 := Lib.hid (HR0.out.mv HM4.out)
 obtain ⟨a40, a41, a42, a4z⟩ := HR4.out.facts
 have hz4 : w.heap.size < w4.heap.size := Nat.lt_of_lt_of_le hsz HM4.out.1.size
 clear hm4
 go_wp2_with fail
 refine (HT4.out _ HR4.out.2.1).mono ?_
 rintro e w5 ⟨rfl, hm5⟩
 have HM5 := Lib.hid (HM4.out.trans hm5)
 have HR5 := Lib.hid (HR0.out.mv HM5.out)
 obtain ⟨a50, a51, a52, a5z⟩ := HR5.out.facts
 have hz5 : w.heap.size < w5.heap.size := Nat.lt_of_lt_of_le hsz HM5.out.1.size
 clear hm5
 go_wp2_with fail
 refine (HN.out _ HR5.out.2.1).mono ?_
 rintro e w6 ⟨rfl, hm6⟩
 have HM6 := Lib.hid (HM5.out.trans hm6)
 have HR6 := Lib.hid (HR0.out.mv HM6.out)
 obtain ⟨a60, a61, a62, a6z⟩ := HR6.out.facts
 have hz6 : w.heap.size < w6.heap.size := Nat.lt_of_lt_of_le hsz HM6.out.1.size
 clear hm6
 have hg := (HM6.out.2.2 w.heap.size hsz (by omega)).trans HG0.out
 obtain ⟨⟨c0, c1, c2, c3, c4, c5, c6⟩, ⟨g0, g1, g2, g3, g4, g5, g6⟩, hgz⟩ := cells7 hg
 clear hg
 go_wp2
 refine bodyPost_ret (by simp [results, Tryz.results103, go_sem, c0, c1, c2, c3, c4, c5, c6]; rfl) rfl ⟨by unfold IV; rw [item_no.1, item_no.2.1, item_no.2.2.1, item_no.2.2.2]; rfl, (Mv.setOther (Mv.setOther (Mv.setOther (Mv.setOther (Mv.setOther (Mv.setOther (Mv.setOther (HMW.out.trans HM6.out) w.heap.size 0 _ (Nat.le_refl _) hcb) w.heap.size 1 _ (Nat.le_refl _) hcb) w.heap.size 2 _ (Nat.le_refl _) hcb) w.heap.size 3 _ (Nat.le_refl _) hcb) w.heap.size 4 _ (Nat.le_refl _) hcb) w.heap.size 5 _ (Nat.le_refl _) hcb) w.heap.size 6 _ (Nat.le_refl _) hcb)⟩
theorem itx_esc (cf : ByteArray → (Nat → Bool) × Bool) (hcf : ClassOk cf) (e : Nat → Addr) (rb cb : Nat) (s : ByteArray) (k ah : Nat) (lg : Int) (w : World) (he : Es w cb e) (h : Rdr w rb cb s k ah lg) (hlg : lg = 2) (hk : (k + 1) < s.size) (h1 : atB s k = 92) :
  Calls Tryz.prog 103 #[.pointer (some ⟨rb, 0, none⟩)] w fun x w' => x = .returned (.tuple #[IV (ah + k) false noP (atB s (k + 1)), .nilIface]) ∧ Mv cb s ((k + 1) + 1) w w' := by
 have HH := Lib.hid h
 have HE := Lib.hid he
 have HCF := Lib.hid hcf
 have HP : Hid (∀ (j : Nat) (w' : World), Rdr w' rb cb s j ah lg → Calls Tryz.prog 90 #[.pointer (some ⟨rb, 0, none⟩)] w' fun e w'' => e = .returned (.int .i64 (ah + j : Nat)) ∧ Mv cb s j w' w'') := Lib.hid fun j w' h' => place_any rb cb s j ah lg w' h'
 have n1 : ¬ (atB s k = 91 ∧ atB s (k + 1) = 58) := fun h => by rw [h1] at h; exact absurd h.1 (by decide)
 have n2 : ¬ (atB s k = 91 ∧ atB s (k + 1) = 46) := fun h => by rw [h1] at h; exact absurd h.1 (by decide)
 have n3 : ¬ (atB s k = 91 ∧ atB s (k + 1) = 61) := fun h => by rw [h1] at h; exact absurd h.1 (by decide)
 have HT58 : Hid (∀ w', Cur w' cb s k → Calls Tryz.prog 77 #[.pointer (some ⟨cb, 0, none⟩), .string ⟨#[91, 58]⟩] w' fun e w'' => e = .returned (.bool false) ∧ Mv cb s k w' w'') := Lib.hid fun w' h' => take2_no cb k s 91 58 w' h' (by decide) (by decide) n1
 have HT46 : Hid (∀ w', Cur w' cb s k → Calls Tryz.prog 77 #[.pointer (some ⟨cb, 0, none⟩), .string ⟨#[91, 46]⟩] w' fun e w'' => e = .returned (.bool false) ∧ Mv cb s k w' w'') := Lib.hid fun w' h' => take2_no cb k s 91 46 w' h' (by decide) (by decide) n2
 have HT61 : Hid (∀ w', Cur w' cb s k → Calls Tryz.prog 77 #[.pointer (some ⟨cb, 0, none⟩), .string ⟨#[91, 61]⟩] w' fun e w'' => e = .returned (.bool false) ∧ Mv cb s k w' w'') := Lib.hid fun w' h' => take2_no cb k s 91 61 w' h' (by decide) (by decide) n3
 have HT4 : Hid (∀ w', Cur w' cb s k → Calls Tryz.prog 77 #[.pointer (some ⟨cb, 0, none⟩), .string ⟨#[92]⟩] w' fun e w'' => e = .returned (.bool true) ∧ Mv cb s (k + 1) w' w'') := Lib.hid fun w' h' => take1_yes cb k s 92 w' h' (by decide) h1
 have HN : Hid (∀ w', Cur w' cb s (k + 1) → Calls Tryz.prog 71 #[.pointer (some ⟨cb, 0, none⟩)] w' fun e w'' => e = .returned (.tuple #[.int .u8 (atB s (k + 1)), .bool true]) ∧ Mv cb s ((k + 1) + 1) w' w'') := Lib.hid fun w' h' => by
  have := next_any cb (k + 1) s w' h'
  rw [if_pos hk, decide_eq_true hk] at this
  exact this
 clear hk h1 n1 n2 n3
 generalize atB s (k + 1) = c at *
 clear h he hcf 
 go_enter Tryz.func103, Tryz.ntmps103
 go_wp2_with fail
 obtain ⟨W, hW⟩ : ∃ W, W = w.alloc (.cells #[.int .i64 0, .bool false, .int .u64 0, .int .u64 0, .int .u64 0, .int .u64 0, .int .u8 0] 193) := ⟨_, rfl⟩
 rw [← hW]
 have HMW : Hid (Mv cb s k w W) := Lib.hid (by rw [hW]; exact Mv.below HH.out.2.1 ((Below.refl _ _).alloc (Nat.le_refl _) _))
 have HG0 : Hid (W.heap[w.heap.size]? = some (.cells #[.int .i64 0, .bool false, .int .u64 0, .int .u64 0, .int .u64 0, .int .u64 0, .int .u8 0] 193)) := Lib.hid (by rw [hW]; exact alloc_last w _)
 have hsz : w.heap.size < W.heap.size := by rw [hW]; simp
 clear hW
 have hcb := HH.out.lt.2
 have HR0 := Lib.hid (HH.out.mv HMW.out)
 have HM0 := Lib.hid (Mv.refl HR0.out.2.1)
 refine (HP.out k _ HR0.out).mono ?_
 rintro e w1 ⟨rfl, hm1⟩
 have HM1 := Lib.hid (HM0.out.trans hm1)
 have HR1 := Lib.hid (HR0.out.mv HM1.out)
 obtain ⟨a10, a11, a12, a1z⟩ := HR1.out.facts
 have hz1 : w.heap.size < w1.heap.size := Nat.lt_of_lt_of_le hsz HM1.out.1.size
 clear hm1
 go_wp2_with fail
 refine (HT58.out _ HR1.out.2.1).mono ?_
 rintro e w2 ⟨rfl, hm2⟩
 have HM2 := Lib.hid (HM1.out.trans hm2)
 have HR2 := Lib.hid (HR0.out.mv HM2.out)
 obtain ⟨a20, a21, a22, a2z⟩ := HR2.out.facts
 have hz2 : w.heap.size < w2.heap.size := Nat.lt_of_lt_of_le hsz HM2.out.1.size
 clear hm2
 go_wp2_with fail
 refine (HT46.out _ HR2.out.2.1).mono ?_
 rintro e w3 ⟨rfl, hm3⟩
 have HM3 := Lib.hid (HM2.out.trans hm3)
 have HR3 := Lib.hid (HR0.out.mv HM3.out)
 obtain ⟨a30, a31, a32, a3z⟩ := HR3.out.facts
 have hz3 : w.heap.size < w3.heap.size := Nat.lt_of_lt_of_le hsz HM3.out.1.size
 clear hm3
 go_wp2_with fail
 refine (HT61.out _ HR3.out.2.1).mono ?_
 rintro e w4 ⟨rfl, hm4⟩
 have HM4 := Lib.hid (HM3.out.trans hm4)
 have HR4 := Lib.hid (HR0.out.mv HM4.out)
 obtain ⟨a40, a41, a42, a4z⟩ := HR4.out.facts
 have hz4 : w.heap.size < w4.heap.size := Nat.lt_of_lt_of_le hsz HM4.out.1.size
 clear hm4
 go_wp2_with fail
 refine (HT4.out _ HR4.out.2.1).mono ?_
 rintro e w5 ⟨rfl, hm5⟩
 have HM5 := Lib.hid (HM4.out.trans hm5)
 have HR5 := Lib.hid (HR0.out.mv HM5.out)
 obtain ⟨a50, a51, a52, a5z⟩ := HR5.out.facts
 have hz5 : w.heap.size < w5.heap.size := Nat.lt_of_lt_of_le hsz HM5.out.1.size
 clear hm5
 go_wp2_with fail
 refine (HN.out _ HR5.out.2.1).mono ?_
 rintro e w6 ⟨rfl, hm6⟩
 have HM6 := Lib.hid (HM5.out.trans hm6)
 have HR6 := Lib.hid (HR0.out.mv HM6.out)
 obtain ⟨a60, a61, a62, a6z⟩ := HR6.out.facts
 have hz6 : w.heap.size < w6.heap.size := Nat.lt_of_lt_of_le hsz HM6.out.1.size
 clear hm6
 have hg := (HM6.out.2.2 w.heap.size hsz (by omega)).trans HG0.out
 obtain ⟨⟨c0, c1, c2, c3, c4, c5, c6⟩, ⟨g0, g1, g2, g3, g4, g5, g6⟩, hgz⟩ := cells7 hg
 clear hg
 go_wp2
 refine bodyPost_ret (by simp [results, Tryz.results103, go_sem, c0, c1, c2, c3, c4, c5, c6]; rfl) rfl ⟨by unfold IV; rw [item_no.1, item_no.2.1, item_no.2.2.1, item_no.2.2.2]; rfl, (Mv.setOther (Mv.setOther (Mv.setOther (Mv.setOther (Mv.setOther (Mv.setOther (Mv.setOther (HMW.out.trans HM6.out) w.heap.size 0 _ (Nat.le_refl _) hcb) w.heap.size 1 _ (Nat.le_refl _) hcb) w.heap.size 2 _ (Nat.le_refl _) hcb) w.heap.size 3 _ (Nat.le_refl _) hcb) w.heap.size 4 _ (Nat.le_refl _) hcb) w.heap.size 5 _ (Nat.le_refl _) hcb) w.heap.size 6 _ (Nat.le_refl _) hcb)⟩
theorem itx_end (cf : ByteArray → (Nat → Bool) × Bool) (hcf : ClassOk cf) (e : Nat → Addr) (rb cb : Nat) (s : ByteArray) (k ah : Nat) (lg : Int) (w : World) (he : Es w cb e) (h : Rdr w rb cb s k ah lg) (hlg : ¬ lg = 2) (hk : ¬ k < s.size) (n1 : ¬ (atB s k = 91 ∧ atB s (k + 1) = 58)) (n2 : ¬ (atB s k = 91 ∧ atB s (k + 1) = 46)) (n3 : ¬ (atB s k = 91 ∧ atB s (k + 1) = 61)) :
  Calls Tryz.prog 103 #[.pointer (some ⟨rb, 0, none⟩)] w fun x w' => ∃ v k', x = .returned (.tuple #[IV 0 false noP 0, v]) ∧ Mv cb s k' w w' ∧ ErrS w' (w.heap.size + 1) e lg 8 (ah + k : Nat) v := by
 have HH := Lib.hid h
 have HE := Lib.hid he
 have HCF := Lib.hid hcf
 have HP : Hid (∀ (j : Nat) (w' : World), Rdr w' rb cb s j ah lg → Calls Tryz.prog 90 #[.pointer (some ⟨rb, 0, none⟩)] w' fun e w'' => e = .returned (.int .i64 (ah + j : Nat)) ∧ Mv cb s j w' w'') := Lib.hid fun j w' h' => place_any rb cb s j ah lg w' h'
 have HT58 : Hid (∀ w', Cur w' cb s k → Calls Tryz.prog 77 #[.pointer (some ⟨cb, 0, none⟩), .string ⟨#[91, 58]⟩] w' fun e w'' => e = .returned (.bool false) ∧ Mv cb s k w' w'') := Lib.hid fun w' h' => take2_no cb k s 91 58 w' h' (by decide) (by decide) n1
 have HT46 : Hid (∀ w', Cur w' cb s k → Calls Tryz.prog 77 #[.pointer (some ⟨cb, 0, none⟩), .string ⟨#[91, 46]⟩] w' fun e w'' => e = .returned (.bool false) ∧ Mv cb s k w' w'') := Lib.hid fun w' h' => take2_no cb k s 91 46 w' h' (by decide) (by decide) n2
 have HT61 : Hid (∀ w', Cur w' cb s k → Calls Tryz.prog 77 #[.pointer (some ⟨cb, 0, none⟩), .string ⟨#[91, 61]⟩] w' fun e w'' => e = .returned (.bool false) ∧ Mv cb s k w' w'') := Lib.hid fun w' h' => take2_no cb k s 91 61 w' h' (by decide) (by decide) n3
 have HN : Hid (∀ w', Cur w' cb s k → Calls Tryz.prog 71 #[.pointer (some ⟨cb, 0, none⟩)] w' fun e w'' => e = .returned (.tuple #[.int .u8 (atB s k), .bool false]) ∧ Mv cb s k w' w'') := Lib.hid fun w' h' => by
  have := next_any cb k s w' h'
  rw [if_neg hk, decide_eq_false hk] at this
  exact this
 clear hk n1 n2 n3
 generalize atB s k = c at *
 clear h he hcf 
 go_enter Tryz.func103, Tryz.ntmps103
 go_wp2_with fail
 obtain ⟨W, hW⟩ : ∃ W, W = w.alloc (.cells #[.int .i64 0, .bool false, .int .u64 0, .int .u64 0, .int .u64 0, .int .u64 0, .int .u8 0] 193) := ⟨_, rfl⟩
 rw [← hW]
 have HMW : Hid (Mv cb s k w W) := Lib.hid (by rw [hW]; exact Mv.below HH.out.2.1 ((Below.refl _ _).alloc (Nat.le_refl _) _))
 have HG0 : Hid (W.heap[w.heap.size]? = some (.cells #[.int .i64 0, .bool false, .int .u64 0, .int .u64 0, .int .u64 0, .int .u64 0, .int .u8 0] 193)) := Lib.hid (by rw [hW]; exact alloc_last w _)
 have hsz : w.heap.size < W.heap.size := by rw [hW]; simp
 clear hW
 have hcb := HH.out.lt.2
 have HR0 := Lib.hid (HH.out.mv HMW.out)
 have HM0 := Lib.hid (Mv.refl HR0.out.2.1)
 refine (HP.out k _ HR0.out).mono ?_
 rintro e w1 ⟨rfl, hm1⟩
 have HM1 := Lib.hid (HM0.out.trans hm1)
 have HR1 := Lib.hid (HR0.out.mv HM1.out)
 obtain ⟨a10, a11, a12, a1z⟩ := HR1.out.facts
 have hz1 : w.heap.size < w1.heap.size := Nat.lt_of_lt_of_le hsz HM1.out.1.size
 clear hm1
 go_wp2_with fail
 refine (HT58.out _ HR1.out.2.1).mono ?_
 rintro e w2 ⟨rfl, hm2⟩
 have HM2 := Lib.hid (HM1.out.trans hm2)
 have HR2 := Lib.hid (HR0.out.mv HM2.out)
 obtain ⟨a20, a21, a22, a2z⟩ := HR2.out.facts
 have hz2 : w.heap.size < w2.heap.size := Nat.lt_of_lt_of_le hsz HM2.out.1.size
 clear hm2
 go_wp2_with fail
 refine (HT46.out _ HR2.out.2.1).mono ?_
 rintro e w3 ⟨rfl, hm3⟩
 have HM3 := Lib.hid (HM2.out.trans hm3)
 have HR3 := Lib.hid (HR0.out.mv HM3.out)
 obtain ⟨a30, a31, a32, a3z⟩ := HR3.out.facts
 have hz3 : w.heap.size < w3.heap.size := Nat.lt_of_lt_of_le hsz HM3.out.1.size
 clear hm3
 go_wp2_with fail
 refine (HT61.out _ HR3.out.2.1).mono ?_
 rintro e w4 ⟨rfl, hm4⟩
 have HM4 := Lib.hid (HM3.out.trans hm4)
 have HR4 := Lib.hid (HR0.out.mv HM4.out)
 obtain ⟨a40, a41, a42, a4z⟩ := HR4.out.facts
 have hz4 : w.heap.size < w4.heap.size := Nat.lt_of_lt_of_le hsz HM4.out.1.size
 clear hm4
 go_wp2_with fail
 refine (HN.out _ HR4.out.2.1).mono ?_
 rintro e w5 ⟨rfl, hm5⟩
 have HM5 := Lib.hid (HM4.out.trans hm5)
 have HR5 := Lib.hid (HR0.out.mv HM5.out)
 obtain ⟨a50, a51, a52, a5z⟩ := HR5.out.facts
 have hz5 : w.heap.size < w5.heap.size := Nat.lt_of_lt_of_le hsz HM5.out.1.size
 clear hm5
 go_wp2_with fail
 refine (HP.out k _ HR5.out).mono ?_
 rintro e w6 ⟨rfl, hm6⟩
 have HM6 := Lib.hid (HM5.out.trans hm6)
 have HR6 := Lib.hid (HR0.out.mv HM6.out)
 obtain ⟨a60, a61, a62, a6z⟩ := HR6.out.facts
 have hz6 : w.heap.size < w6.heap.size := Nat.lt_of_lt_of_le hsz HM6.out.1.size
 clear hm6
 go_wp2_with fail
 refine (refuse_any rb lg e cb 8 (ah + k) (by decide) _ (HE.out.below (HMW.out.trans HM6.out).1) a62).mono ?_
 rintro e w7 ⟨v, rfl, her7, hb⟩
 have hm7 := Mv.below HR6.out.2.1 hb
 have HM7 := Lib.hid (HM6.out.trans hm7)
 have HR7 := Lib.hid (HR0.out.mv HM7.out)
 obtain ⟨a70, a71, a72, a7z⟩ := HR7.out.facts
 have hz7 : w.heap.size < w7.heap.size := Nat.lt_of_lt_of_le hsz HM7.out.1.size
 clear hm7
 have HER := Lib.hid her7
 clear her7 hb
 have hg := (HM7.out.2.2 w.heap.size hsz (by omega)).trans HG0.out
 obtain ⟨⟨c0, c1, c2, c3, c4, c5, c6⟩, ⟨g0, g1, g2, g3, g4, g5, g6⟩, hgz⟩ := cells7 hg
 clear hg
 go_wp2
 refine bodyPost_ret (by simp [results, Tryz.results103, go_sem, c0, c1, c2, c3, c4, c5, c6]; rfl) rfl ⟨v, _, by unfold IV; rw [item_no.1, item_no.2.1, item_no.2.2.1, item_no.2.2.2]; rfl, (Mv.setOther (Mv.setOther (Mv.setOther (Mv.setOther (Mv.setOther (Mv.setOther (Mv.setOther (HMW.out.trans HM7.out) w.heap.size 0 _ (Nat.le_refl _) hcb) w.heap.size 1 _ (Nat.le_refl _) hcb) w.heap.size 2 _ (Nat.le_refl _) hcb) w.heap.size 3 _ (Nat.le_refl _) hcb) w.heap.size 4 _ (Nat.le_refl _) hcb) w.heap.size 5 _ (Nat.le_refl _) hcb) w.heap.size 6 _ (Nat.le_refl _) hcb), ?_⟩
 exact (ErrS.set (ErrS.set (ErrS.set (ErrS.set (ErrS.set (ErrS.set (ErrS.set (HER.out.lower (by omega)) w.heap.size 0 _ (by omega)) w.heap.size 1 _ (by omega)) w.heap.size 2 _ (by omega)) w.heap.size 3 _ (by omega)) w.heap.size 4 _ (by omega)) w.heap.size 5 _ (by omega)) w.heap.size 6 _ (by omega))
theorem itx_endg (cf : ByteArray → (Nat → Bool) × Bool) (hcf : ClassOk cf) (e : Nat → Addr) (rb cb : Nat) (s : ByteArray) (k ah : Nat) (lg : Int) (w : World) (he : Es w cb e) (h : Rdr w rb cb s k ah lg) (hlg : lg = 2) (hk : ¬ k < s.size) (n1 : ¬ (atB s k = 91 ∧ atB s (k + 1) = 58)) (n2 : ¬ (atB s k = 91 ∧ atB s (k + 1) = 46)) (n3 : ¬ (atB s k = 91 ∧ atB s (k + 1) = 61)) (h2 : ¬ atB s k = 92) :
  Calls Tryz.prog 103 #[.pointer (some ⟨rb, 0, none⟩)] w fun x w' => ∃ v k', x = .returned (.tuple #[IV 0 false noP 0, v]) ∧ Mv cb s k' w w' ∧ ErrS w' (w.heap.size + 1) e lg 8 (ah + k : Nat) v := by
 have HH := Lib.hid h
 have HE := Lib.hid he
 have HCF := Lib.hid hcf
 have HP : Hid (∀ (j : Nat) (w' : World), Rdr w' rb cb s j ah lg → Calls Tryz.prog 90 #[.pointer (some ⟨rb, 0, none⟩)] w' fun e w'' => e = .returned (.int .i64 (ah + j : Nat)) ∧ Mv cb s j w' w'') := Lib.hid fun j w' h' => place_any rb cb s j ah lg w' h'
 have HT58 : Hid (∀ w', Cur w' cb s k → Calls Tryz.prog 77 #[.pointer (some ⟨cb, 0, none⟩), .string ⟨#[91, 58]⟩] w' fun e w'' => e = .returned (.bool false) ∧ Mv cb s k w' w'') := Lib.hid fun w' h' => take2_no cb k s 91 58 w' h' (by decide) (by decide) n1
 have HT46 : Hid (∀ w', Cur w' cb s k → Calls Tryz.prog 77 #[.pointer (some ⟨cb, 0, none⟩), .string ⟨#[91, 46]⟩] w' fun e w'' => e = .returned (.bool false) ∧ Mv cb s k w' w'') := Lib.hid fun w' h' => take2_no cb k s 91 46 w' h' (by decide) (by decide) n2
 have HT61 : Hid (∀ w', Cur w' cb s k → Calls Tryz.prog 77 #[.pointer (some ⟨cb, 0, none⟩), .string ⟨#[91, 61]⟩] w' fun e w'' => e = .returned (.bool false) ∧ Mv cb s k w' w'') := Lib.hid fun w' h' => take2_no cb k s 91 61 w' h' (by decide) (by decide) n3
 have HT4 : Hid (∀ w', Cur w' cb s k → Calls Tryz.prog 77 #[.pointer (some ⟨cb, 0, none⟩), .string ⟨#[92]⟩] w' fun e w'' => e = .returned (.bool false) ∧ Mv cb s k w' w'') := Lib.hid fun w' h' => take1_no cb k s 92 w' h' (by decide) h2
 have HN : Hid (∀ w', Cur w' cb s k → Calls Tryz.prog 71 #[.pointer (some ⟨cb, 0, none⟩)] w' fun e w'' => e = .returned (.tuple #[.int .u8 (atB s k), .bool false]) ∧ Mv cb s k w' w'') := Lib.hid fun w' h' => by
  have := next_any cb k s w' h'
  rw [if_neg hk, decide_eq_false hk] at this
  exact this
 clear hk h2 n1 n2 n3
 generalize atB s k = c at *
 clear h he hcf 
 go_enter Tryz.func103, Tryz.ntmps103
 go_wp2_with fail
 obtain ⟨W, hW⟩ : ∃ W, W = w.alloc (.cells #[.int .i64 0, .bool false, .int .u64 0, .int .u64 0, .int .u64 0, .int .u64 0, .int .u8 0] 193) := ⟨_, rfl⟩
 rw [← hW]
 have HMW : Hid (Mv cb s k w W) := Lib.hid (by rw [hW]; exact Mv.below HH.out.2.1 ((Below.refl _ _).alloc (Nat.le_refl _) _))
 have HG0 : Hid (W.heap[w.heap.size]? = some (.cells #[.int .i64 0, .bool false, .int .u64 0, .int .u64 0, .int .u64 0, .int .u64 0, .int .u8 0] 193)) := Lib.hid (by rw [hW]; exact alloc_last w _)
 have hsz : w.heap.size < W.heap.size := by rw [hW]; simp
 clear hW
 have hcb := HH.out.lt.2
 have HR0 := Lib.hid (HH.out.mv HMW.out)
 have HM0 := Lib.hid (Mv.refl HR0.out.2.1)
 refine (HP.out k _ HR0.out).mono ?_
 rintro e w1 ⟨rfl, hm1⟩
 have HM1 := Lib.hid (HM0.out.trans hm1)
 have HR1 := Lib.hid (HR0.out.mv HM1.out)
 obtain ⟨a10, a11, a12, a1z⟩ := HR1.out.facts
 have hz1 : w.heap.size < w1.heap.size := Nat.lt_of_lt_of_le hsz HM1.out.1.size
 clear hm1
 go_wp2_with fail
 refine (HT58.out _ HR1.out.2.1).mono ?_
 rintro e w2 ⟨rfl, hm2⟩
 have HM2 := Lib.hid (HM1.out.trans hm2)
 have HR2 := Lib.hid (HR0.out.mv HM2.out)
 obtain ⟨a20, a21, a22, a2z⟩ := HR2.out.facts
 have hz2 : w.heap.size < w2.heap.size := Nat.lt_of_lt_of_le hsz HM2.out.1.size
 clear hm2
 go_wp2_with fail
 refine (HT46.out _ HR2.out.2.1).mono ?_
 rintro e w3 ⟨rfl, hm3⟩
 have HM3 := Lib.hid (HM2.out.trans hm3)
 have HR3 := Lib.hid (HR0.out.mv HM3.out)
 obtain ⟨a30, a31, a32, a3z⟩ := HR3.out.facts
 have hz3 : w.heap.size < w3.heap.size := Nat.lt_of_lt_of_le hsz HM3.out.1.size
 clear hm3
 go_wp2_with fail
 refine (HT61.out _ HR3.out.2.1).mono ?_
 rintro e w4 ⟨rfl, hm4⟩
 have HM4 := Lib.hid (HM3.out.trans hm4)
 have HR4 := Lib.hid (HR0.out.mv HM4.out)
 obtain ⟨a40, a41, a42, a4z⟩ := HR4.out.facts
 have hz4 : w.heap.size < w4.heap.size := Nat.lt_of_lt_of_le hsz HM4.out.1.size
 clear hm4
 go_wp2_with fail
 refine (HT4.out _ HR4.out.2.1).mono ?_
 rintro e w5 ⟨rfl, hm5⟩
 have HM5 := Lib.hid (HM4.out.trans hm5)
 have HR5 := Lib.hid (HR0.out.mv HM5.out)
 obtain ⟨a50, a51, a52, a5z⟩ := HR5.out.facts
 have hz5 : w.heap.size < w5.heap.size := Nat.lt_of_lt_of_le hsz HM5.out.1.size
 clear hm5
 go_wp2_with fail
 refine (HN.out _ HR5.out.2.1).mono ?_
 rintro e w6 ⟨rfl, hm6⟩
 have HM6 := Lib.hid (HM5.out.trans hm6)
 have HR6 := Lib.hid (HR0.out.mv HM6.out)
 obtain ⟨a60, a61, a62, a6z⟩ := HR6.out.facts
 have hz6 : w.heap.size < w6.heap.size := Nat.lt_of_lt_of_le hsz HM6.out.1.size
 clear hm6
 go_wp2_with fail
 refine (HP.out k _ HR6.out).mono ?_
 rintro e w7 ⟨rfl, hm7⟩
 have HM7 := Lib.hid (HM6.out.trans hm7)
 have HR7 := Lib.hid (HR0.out.mv HM7.out)
 obtain ⟨a70, a71, a72, a7z⟩ := HR7.out.facts
 have hz7 : w.heap.size < w7.heap.size := Nat.lt_of_lt_of_le hsz HM7.out.1.size
 clear hm7
 go_wp2_with fail
 refine (refuse_any rb lg e cb 8 (ah + k) (by decide) _ (HE.out.below (HMW.out.trans HM7.out).1) a72).mono ?_
 rintro e w8 ⟨v, rfl, her8, hb⟩
 have hm8 := Mv.below HR7.out.2.1 hb
 have HM8 := Lib.hid (HM7.out.trans hm8)
 have HR8 := Lib.hid (HR0.out.mv HM8.out)
 obtain ⟨a80, a81, a82, a8z⟩ := HR8.out.facts
 have hz8 : w.heap.size < w8.heap.size := Nat.lt_of_lt_of_le hsz HM8.out.1.size
 clear hm8
 have HER := Lib.hid her8
 clear her8 hb
 have hg := (HM8.out.2.2 w.heap.size hsz (by omega)).trans HG0.out
 obtain ⟨⟨c0, c1, c2, c3, c4, c5, c6⟩, ⟨g0, g1, g2, g3, g4, g5, g6⟩, hgz⟩ := cells7 hg
 clear hg
 go_wp2
 refine bodyPost_ret (by simp [results, Tryz.results103, go_sem, c0, c1, c2, c3, c4, c5, c6]; rfl) rfl ⟨v, _, by unfold IV; rw [item_no.1, item_no.2.1, item_no.2.2.1, item_no.2.2.2]; rfl, (Mv.setOther (Mv.setOther (Mv.setOther (Mv.setOther (Mv.setOther (Mv.setOther (Mv.setOther (HMW.out.trans HM8.out) w.heap.size 0 _ (Nat.le_refl _) hcb) w.heap.size 1 _ (Nat.le_refl _) hcb) w.heap.size 2 _ (Nat.le_refl _) hcb) w.heap.size 3 _ (Nat.le_refl _) hcb) w.heap.size 4 _ (Nat.le_refl _) hcb) w.heap.size 5 _ (Nat.le_refl _) hcb) w.heap.size 6 _ (Nat.le_refl _) hcb), ?_⟩
 exact (ErrS.set (ErrS.set (ErrS.set (ErrS.set (ErrS.set (ErrS.set (ErrS.set (HER.out.lower (by omega)) w.heap.size 0 _ (by omega)) w.heap.size 1 _ (by omega)) w.heap.size 2 _ (by omega)) w.heap.size 3 _ (by omega)) w.heap.size 4 _ (by omega)) w.heap.size 5 _ (by omega)) w.heap.size 6 _ (by omega))
theorem itx_ende (cf : ByteArray → (Nat → Bool) × Bool) (hcf : ClassOk cf) (e : Nat → Addr) (rb cb : Nat) (s : ByteArray) (k ah : Nat) (lg : Int) (w : World) (he : Es w cb e) (h : Rdr w rb cb s k ah lg) (hlg : lg = 2) (hk : ¬ (k + 1) < s.size) (h1 : atB s k = 92) :
  Calls Tryz.prog 103 #[.pointer (some ⟨rb, 0, none⟩)] w fun x w' => ∃ v k', x = .returned (.tuple #[IV 0 false noP 0, v]) ∧ Mv cb s k' w w' ∧ ErrS w' (w.heap.size + 1) e lg 8 (ah + (k + 1) : Nat) v := by
 have HH := Lib.hid h
 have HE := Lib.hid he
 have HCF := Lib.hid hcf
 have HP : Hid (∀ (j : Nat) (w' : World), Rdr w' rb cb s j ah lg → Calls Tryz.prog 90 #[.pointer (some ⟨rb, 0, none⟩)] w' fun e w'' => e = .returned (.int .i64 (ah + j : Nat)) ∧ Mv cb s j w' w'') := Lib.hid fun j w' h' => place_any rb cb s j ah lg w' h'
 have n1 : ¬ (atB s k = 91 ∧ atB s (k + 1) = 58) := fun h => by rw [h1] at h; exact absurd h.1 (by decide)
 have n2 : ¬ (atB s k = 91 ∧ atB s (k + 1) = 46) := fun h => by rw [h1] at h; exact absurd h.1 (by decide)
 have n3 : ¬ (atB s k = 91 ∧ atB s (k + 1) = 61) := fun h => by rw [h1] at h; exact absurd h.1 (by decide)
 have HT58 : Hid (∀ w', Cur w' cb s k → Calls Tryz.prog 77 #[.pointer (some ⟨cb, 0, none⟩), .string ⟨#[91, 58]⟩] w' fun e w'' => e = .returned (.bool false) ∧ Mv cb s k w' w'') := Lib.hid fun w' h' => take2_no cb k s 91 58 w' h' (by decide) (by decide) n1
 have HT46 : Hid (∀ w', Cur w' cb s k → Calls Tryz.prog 77 #[.pointer (some ⟨cb, 0, none⟩), .string ⟨#[91, 46]⟩] w' fun e w'' => e = .returned (.bool false) ∧ Mv cb s k w' w'') := Lib.hid fun w' h' => take2_no cb k s 91 46 w' h' (by decide) (by decide) n2
 have HT61 : Hid (∀ w', Cur w' cb s k → Calls Tryz.prog 77 #[.pointer (some ⟨cb, 0, none⟩), .string ⟨#[91, 61]⟩] w' fun e w'' => e = .returned (.bool false) ∧ Mv cb s k w' w'') := Lib.hid fun w' h' => take2_no cb k s 91 61 w' h' (by decide) (by decide) n3
 have HT4 : Hid (∀ w', Cur w' cb s k → Calls Tryz.prog 77 #[.pointer (some ⟨cb, 0, none⟩), .string ⟨#[92]⟩] w' fun e w'' => e = .returned (.bool true) ∧ Mv cb s (k + 1) w' w'') := Lib.hid fun w' h' => take1_yes cb k s 92 w' h' (by decide) h1
 have HN : Hid (∀ w', Cur w' cb s (k + 1) → Calls Tryz.prog 71 #[.pointer (some ⟨cb, 0, none⟩)] w' fun e w'' => e = .returned (.tuple #[.int .u8 (atB s (k + 1)), .bool false]) ∧ Mv cb s (k + 1) w' w'') := Lib.hid fun w' h' => by
  have := next_any cb (k + 1) s w' h'
  rw [if_neg hk, decide_eq_false hk] at this
  exact this
 clear hk h1 n1 n2 n3
 generalize atB s (k + 1) = c at *
 clear h he hcf 
 go_enter Tryz.func103, Tryz.ntmps103
 go_wp2_with fail
 obtain ⟨W, hW⟩ : ∃ W, W = w.alloc (.cells #[.int .i64 0, .bool false, .int .u64 0, .int .u64 0, .int .u64 0, .int .u64 0, .int .u8 0] 193) := ⟨_, rfl⟩
 rw [← hW]
 have HMW : Hid (Mv cb s k w W) := Lib.hid (by rw [hW]; exact Mv.below HH.out.2.1 ((Below.refl _ _).alloc (Nat.le_refl _) _))
 have HG0 : Hid (W.heap[w.heap.size]? = some (.cells #[.int .i64 0, .bool false, .int .u64 0, .int .u64 0, .int .u64 0, .int .u64 0, .int .u8 0] 193)) := Lib.hid (by rw [hW]; exact alloc_last w _)
 have hsz : w.heap.size < W.heap.size := by rw [hW]; simp
 clear hW
 have hcb := HH.out.lt.2
 have HR0 := Lib.hid (HH.out.mv HMW.out)
 have HM0 := Lib.hid (Mv.refl HR0.out.2.1)
 refine (HP.out k _ HR0.out).mono ?_
 rintro e w1 ⟨rfl, hm1⟩
 have HM1 := Lib.hid (HM0.out.trans hm1)
 have HR1 := Lib.hid (HR0.out.mv HM1.out)
 obtain ⟨a10, a11, a12, a1z⟩ := HR1.out.facts
 have hz1 : w.heap.size < w1.heap.size := Nat.lt_of_lt_of_le hsz HM1.out.1.size
 clear hm1
 go_wp2_with fail
 refine (HT58.out _ HR1.out.2.1).mono ?_
 rintro e w2 ⟨rfl, hm2⟩
 have HM2 := Lib.hid (HM1.out.trans hm2)
 have HR2 := Lib.hid (HR0.out.mv HM2.out)
 obtain ⟨a20, a21, a22, a2z⟩ := HR2.out.facts
 have hz2 : w.heap.size < w2.heap.size := Nat.lt_of_lt_of_le hsz HM2.out.1.size
 clear hm2
 go_wp2_with fail
 refine (HT46.out _ HR2.out.2.1).mono ?_
 rintro e w3 ⟨rfl, hm3⟩
 have HM3 := Lib.hid (HM2.out.trans hm3)
 have HR3 := Lib.hid (HR0.out.mv HM3.out)
 obtain ⟨a30, a31, a32, a3z⟩ := HR3.out.facts
 have hz3 : w.heap.size < w3.heap.size := Nat.lt_of_lt_of_le hsz HM3.out.1.size
 clear hm3
 go_wp2_with fail
 refine (HT61.out _ HR3.out.2.1).mono ?_
 rintro e w4 ⟨rfl, hm4⟩
 have HM4 := Lib.hid (HM3.out.trans hm4)
 have HR4 := Lib.hid (HR0.out.mv HM4.out)
 obtain ⟨a40, a41, a42, a4z⟩ := HR4.out.facts
 have hz4 : w.heap.size < w4.heap.size := Nat.lt_of_lt_of_le hsz HM4.out.1.size
 clear hm4
 go_wp2_with fail
 refine (HT4.out _ HR4.out.2.1).mono ?_
 rintro e w5 ⟨rfl, hm5⟩
 have HM5 := Lib.hid (HM4.out.trans hm5)
 have HR5 := Lib.hid (HR0.out.mv HM5.out)
 obtain ⟨a50, a51, a52, a5z⟩ := HR5.out.facts
 have hz5 : w.heap.size < w5.heap.size := Nat.lt_of_lt_of_le hsz HM5.out.1.size
 clear hm5
 go_wp2_with fail
 refine (HN.out _ HR5.out.2.1).mono ?_
 rintro e w6 ⟨rfl, hm6⟩
 have HM6 := Lib.hid (HM5.out.trans hm6)
 have HR6 := Lib.hid (HR0.out.mv HM6.out)
 obtain ⟨a60, a61, a62, a6z⟩ := HR6.out.facts
 have hz6 : w.heap.size < w6.heap.size := Nat.lt_of_lt_of_le hsz HM6.out.1.size
 clear hm6
 go_wp2_with fail
 refine (HP.out (k + 1) _ HR6.out).mono ?_
 rintro e w7 ⟨rfl, hm7⟩
 have HM7 := Lib.hid (HM6.out.trans hm7)
 have HR7 := Lib.hid (HR0.out.mv HM7.out)
 obtain ⟨a70, a71, a72, a7z⟩ := HR7.out.facts
 have hz7 : w.heap.size < w7.heap.size := Nat.lt_of_lt_of_le hsz HM7.out.1.size
 clear hm7
 go_wp2_with fail
 refine (refuse_any rb lg e cb 8 (ah + (k + 1)) (by decide) _ (HE.out.below (HMW.out.trans HM7.out).1) a72).mono ?_
 rintro e w8 ⟨v, rfl, her8, hb⟩
 have hm8 := Mv.below HR7.out.2.1 hb
 have HM8 := Lib.hid (HM7.out.trans hm8)
 have HR8 := Lib.hid (HR0.out.mv HM8.out)
 obtain ⟨a80, a81, a82, a8z⟩ := HR8.out.facts
 have hz8 : w.heap.size < w8.heap.size := Nat.lt_of_lt_of_le hsz HM8.out.1.size
 clear hm8
 have HER := Lib.hid her8
 clear her8 hb
 have hg := (HM8.out.2.2 w.heap.size hsz (by omega)).trans HG0.out
 obtain ⟨⟨c0, c1, c2, c3, c4, c5, c6⟩, ⟨g0, g1, g2, g3, g4, g5, g6⟩, hgz⟩ := cells7 hg
 clear hg
 go_wp2
 refine bodyPost_ret (by simp [results, Tryz.results103, go_sem, c0, c1, c2, c3, c4, c5, c6]; rfl) rfl ⟨v, _, by unfold IV; rw [item_no.1, item_no.2.1, item_no.2.2.1, item_no.2.2.2]; rfl, (Mv.setOther (Mv.setOther (Mv.setOther (Mv.setOther (Mv.setOther (Mv.setOther (Mv.setOther (HMW.out.trans HM8.out) w.heap.size 0 _ (Nat.le_refl _) hcb) w.heap.size 1 _ (Nat.le_refl _) hcb) w.heap.size 2 _ (Nat.le_refl _) hcb) w.heap.size 3 _ (Nat.le_refl _) hcb) w.heap.size 4 _ (Nat.le_refl _) hcb) w.heap.size 5 _ (Nat.le_refl _) hcb) w.heap.size 6 _ (Nat.le_refl _) hcb), ?_⟩
 exact (ErrS.set (ErrS.set (ErrS.set (ErrS.set (ErrS.set (ErrS.set (ErrS.set (HER.out.lower (by omega)) w.heap.size 0 _ (by omega)) w.heap.size 1 _ (by omega)) w.heap.size 2 _ (by omega)) w.heap.size 3 _ (by omega)) w.heap.size 4 _ (by omega)) w.heap.size 5 _ (by omega)) w.heap.size 6 _ (by omega))
theorem itx_dot (cf : ByteArray → (Nat → Bool) × Bool) (hcf : ClassOk cf) (e : Nat → Addr) (rb cb : Nat) (s : ByteArray) (k ah : Nat) (lg : Int) (w : World) (he : Es w cb e) (h : Rdr w rb cb s k ah lg) (h1 : atB s k = 91) (h2 : atB s (k + 1) = 46) :
  Calls Tryz.prog 103 #[.pointer (some ⟨rb, 0, none⟩)] w fun x w' => ∃ v k', x = .returned (.tuple #[IV 0 false noP 0, v]) ∧ Mv cb s k' w w' ∧ ErrS w' (w.heap.size + 1) e lg 8 (ah + k : Nat) v := by
 have HH := Lib.hid h
 have HE := Lib.hid he
 have HCF := Lib.hid hcf
 have HP : Hid (∀ (j : Nat) (w' : World), Rdr w' rb cb s j ah lg → Calls Tryz.prog 90 #[.pointer (some ⟨rb, 0, none⟩)] w' fun e w'' => e = .returned (.int .i64 (ah + j : Nat)) ∧ Mv cb s j w' w'') := Lib.hid fun j w' h' => place_any rb cb s j ah lg w' h'
 have n1 : ¬ (atB s k = 91 ∧ atB s (k + 1) = 58) := fun h => by rw [h2] at h; exact absurd h.2 (by decide)
 have HT58 : Hid (∀ w', Cur w' cb s k → Calls Tryz.prog 77 #[.pointer (some ⟨cb, 0, none⟩), .string ⟨#[91, 58]⟩] w' fun e w'' => e = .returned (.bool false) ∧ Mv cb s k w' w'') := Lib.hid fun w' h' => take2_no cb k s 91 58 w' h' (by decide) (by decide) n1
 have HT46 : Hid (∀ w', Cur w' cb s k → Calls Tryz.prog 77 #[.pointer (some ⟨cb, 0, none⟩), .string ⟨#[91, 46]⟩] w' fun e w'' => e = .returned (.bool true) ∧ Mv cb s (k + 2) w' w'') := Lib.hid fun w' h' => take2_yes cb k s 91 46 w' h' (by decide) (by decide) h1 h2
 clear h1 h2 n1
 clear h he hcf 
 go_enter Tryz.func103, Tryz.ntmps103
 go_wp2_with fail
 obtain ⟨W, hW⟩ : ∃ W, W = w.alloc (.cells #[.int .i64 0, .bool false, .int .u64 0, .int .u64 0, .int .u64 0, .int .u64 0, .int .u8 0] 193) := ⟨_, rfl⟩
 rw [← hW]
 have HMW : Hid (Mv cb s k w W) := Lib.hid (by rw [hW]; exact Mv.below HH.out.2.1 ((Below.refl _ _).alloc (Nat.le_refl _) _))
 have HG0 : Hid (W.heap[w.heap.size]? = some (.cells #[.int .i64 0, .bool false, .int .u64 0, .int .u64 0, .int .u64 0, .int .u64 0, .int .u8 0] 193)) := Lib.hid (by rw [hW]; exact alloc_last w _)
 have hsz : w.heap.size < W.heap.size := by rw [hW]; simp
 clear hW
 have hcb := HH.out.lt.2
 have HR0 := Lib.hid (HH.out.mv HMW.out)
 have HM0 := Lib.hid (Mv.refl HR0.out.2.1)
 refine (HP.out k _ HR0.out).mono ?_
 rintro e w1 ⟨rfl, hm1⟩
 have HM1 := Lib.hid (HM0.out.trans hm1)
 have HR1 := Lib.hid (HR0.out.mv HM1.out)
 obtain ⟨a10, a11, a12, a1z⟩ := HR1.out.facts
 have hz1 : w.heap.size < w1.heap.size := Nat.lt_of_lt_of_le hsz HM1.out.1.size
 clear hm1
 go_wp2_with fail
 refine (HT58.out _ HR1.out.2.1).mono ?_
 rintro e w2 ⟨rfl, hm2⟩
 have HM2 := Lib.hid (HM1.out.trans hm2)
 have HR2 := Lib.hid (HR0.out.mv HM2.out)
 obtain ⟨a20, a21, a22, a2z⟩ := HR2.out.facts
 have hz2 : w.heap.size < w2.heap.size := Nat.lt_of_lt_of_le hsz HM2.out.1.size
 clear hm2
 go_wp2_with fail
 refine (HT46.out _ HR2.out.2.1).mono ?_
 rintro e w3 ⟨rfl, hm3⟩
 have HM3 := Lib.hid (HM2.out.trans hm3)
 have HR3 := Lib.hid (HR0.out.mv HM3.out)
 obtain ⟨a30, a31, a32, a3z⟩ := HR3.out.facts
 have hz3 : w.heap.size < w3.heap.size := Nat.lt_of_lt_of_le hsz HM3.out.1.size
 clear hm3
 go_wp2_with fail
 refine (refuse_any rb lg e cb 8 (ah + k) (by decide) _ (HE.out.below (HMW.out.trans HM3.out).1) a32).mono ?_
 rintro e w4 ⟨v, rfl, her4, hb⟩
 have hm4 := Mv.below HR3.out.2.1 hb
 have HM4 := Lib.hid (HM3.out.trans hm4)
 have HR4 := Lib.hid (HR0.out.mv HM4.out)
 obtain ⟨a40, a41, a42, a4z⟩ := HR4.out.facts
 have hz4 : w.heap.size < w4.heap.size := Nat.lt_of_lt_of_le hsz HM4.out.1.size
 clear hm4
 have HER := Lib.hid her4
 clear her4 hb
 have hg := (HM4.out.2.2 w.heap.size hsz (by omega)).trans HG0.out
 obtain ⟨⟨c0, c1, c2, c3, c4, c5, c6⟩, ⟨g0, g1, g2, g3, g4, g5, g6⟩, hgz⟩ := cells7 hg
 clear hg
 go_wp2
 refine bodyPost_ret (by simp [results, Tryz.results103, go_sem, c0, c1, c2, c3, c4, c5, c6]; rfl) rfl ⟨v, _, by unfold IV; rw [item_no.1, item_no.2.1, item_no.2.2.1, item_no.2.2.2]; rfl, (Mv.setOther (Mv.setOther (Mv.setOther (Mv.setOther (Mv.setOther (Mv.setOther (Mv.setOther (HMW.out.trans HM4.out) w.heap.size 0 _ (Nat.le_refl _) hcb) w.heap.size 1 _ (Nat.le_refl _) hcb) w.heap.size 2 _ (Nat.le_refl _) hcb) w.heap.size 3 _ (Nat.le_refl _) hcb) w.heap.size 4 _ (Nat.le_refl _) hcb) w.heap.size 5 _ (Nat.le_refl _) hcb) w.heap.size 6 _ (Nat.le_refl _) hcb), ?_⟩
 exact (ErrS.set (ErrS.set (ErrS.set (ErrS.set (ErrS.set (ErrS.set (ErrS.set (HER.out.lower (by omega)) w.heap.size 0 _ (by omega)) w.heap.size 1 _ (by omega)) w.heap.size 2 _ (by omega)) w.heap.size 3 _ (by omega)) w.heap.size 4 _ (by omega)) w.heap.size 5 _ (by omega)) w.heap.size 6 _ (by omega))
theorem itx_eq (cf : ByteArray → (Nat → Bool) × Bool) (hcf : ClassOk cf) (e : Nat → Addr) (rb cb : Nat) (s : ByteArray) (k ah : Nat) (lg : Int) (w : World) (he : Es w cb e) (h : Rdr w rb cb s k ah lg) (h1 : atB s k = 91) (h2 : atB s (k + 1) = 61) :
  Calls Tryz.prog 103 #[.pointer (some ⟨rb, 0, none⟩)] w fun x w' => ∃ v k', x = .returned (.tuple #[IV 0 false noP 0, v]) ∧ Mv cb s k' w w' ∧ ErrS w' (w.heap.size + 1) e lg 8 (ah + k : Nat) v := by
 have HH := Lib.hid h
 have HE := Lib.hid he
 have HCF := Lib.hid hcf
 have HP : Hid (∀ (j : Nat) (w' : World), Rdr w' rb cb s j ah lg → Calls Tryz.prog 90 #[.pointer (some ⟨rb, 0, none⟩)] w' fun e w'' => e = .returned (.int .i64 (ah + j : Nat)) ∧ Mv cb s j w' w'') := Lib.hid fun j w' h' => place_any rb cb s j ah lg w' h'
 have n1 : ¬ (atB s k = 91 ∧ atB s (k + 1) = 58) := fun h => by rw [h2] at h; exact absurd h.2 (by decide)
 have n2 : ¬ (atB s k = 91 ∧ atB s (k + 1) = 46) := fun h => by rw [h2] at h; exact absurd h.2 (by decide)
 have HT58 : Hid (∀ w', Cur w' cb s k → Calls Tryz.prog 77 #[.pointer (some ⟨cb, 0, none⟩), .string ⟨#[91, 58]⟩] w' fun e w'' => e = .returned (.bool false) ∧ Mv cb s k w' w'') := Lib.hid fun w' h' => take2_no cb k s 91 58 w' h' (by decide) (by decide) n1
 have HT46 : Hid (∀ w', Cur w' cb s k → Calls Tryz.prog 77 #[.pointer (some ⟨cb, 0, none⟩), .string ⟨#[91, 46]⟩] w' fun e w'' => e = .returned (.bool false) ∧ Mv cb s k w' w'') := Lib.hid fun w' h' => take2_no cb k s 91 46 w' h' (by decide) (by decide) n2
 have HT61 : Hid (∀ w', Cur w' cb s k → Calls Tryz.prog 77 #[.pointer (some ⟨cb, 0, none⟩), .string ⟨#[91, 61]⟩] w' fun e w'' => e = .returned (.bool true) ∧ Mv cb s (k + 2) w' w'') := Lib.hid fun w' h' => take2_yes cb k s 91 61 w' h' (by decide) (by decide) h1 h2
 clear h1 h2 n1 n2
 clear h he hcf 
 go_enter Tryz.func103, Tryz.ntmps103
 go_wp2_with fail
 obtain ⟨W, hW⟩ : ∃ W, W = w.alloc (.cells #[.int .i64 0, .bool false, .int .u64 0, .int .u64 0, .int .u64 0, .int .u64 0, .int .u8 0] 193) := ⟨_, rfl⟩
 rw [← hW]
 have HMW : Hid (Mv cb s k w W) := Lib.hid (by rw [hW]; exact Mv.below HH.out.2.1 ((Below.refl _ _).alloc (Nat.le_refl _) _))
 have HG0 : Hid (W.heap[w.heap.size]? = some (.cells #[.int .i64 0, .bool false, .int .u64 0, .int .u64 0, .int .u64 0, .int .u64 0, .int .u8 0] 193)) := Lib.hid (by rw [hW]; exact alloc_last w _)
 have hsz : w.heap.size < W.heap.size := by rw [hW]; simp
 clear hW
 have hcb := HH.out.lt.2
 have HR0 := Lib.hid (HH.out.mv HMW.out)
 have HM0 := Lib.hid (Mv.refl HR0.out.2.1)
 refine (HP.out k _ HR0.out).mono ?_
 rintro e w1 ⟨rfl, hm1⟩
 have HM1 := Lib.hid (HM0.out.trans hm1)
 have HR1 := Lib.hid (HR0.out.mv HM1.out)
 obtain ⟨a10, a11, a12, a1z⟩ := HR1.out.facts
 have hz1 : w.heap.size < w1.heap.size := Nat.lt_of_lt_of_le hsz HM1.out.1.size
 clear hm1
 go_wp2_with fail
 refine (HT58.out _ HR1.out.2.1).mono ?_
 rintro e w2 ⟨rfl, hm2⟩
 have HM2 := Lib.hid (HM1.out.trans hm2)
 have HR2 := Lib.hid (HR0.out.mv HM2.out)
 obtain ⟨a20, a21, a22, a2z⟩ := HR2.out.facts
 have hz2 : w.heap.size < w2.heap.size := Nat.lt_of_lt_of_le hsz HM2.out.1.size
 clear hm2
 go_wp2_with fail
 refine (HT46.out _ HR2.out.2.1).mono ?_
 rintro e w3 ⟨rfl, hm3⟩
 have HM3 := Lib.hid (HM2.out.trans hm3)
 have HR3 := Lib.hid (HR0.out.mv HM3.out)
 obtain ⟨a30, a31, a32, a3z⟩ := HR3.out.facts
 have hz3 : w.heap.size < w3.heap.size := Nat.lt_of_lt_of_le hsz HM3.out.1.size
 clear hm3
 go_wp2_with fail
 refine (HT61.out _ HR3.out.2.1).mono ?_
 rintro e w4 ⟨rfl, hm4⟩
 have HM4 := Lib.hid (HM3.out.trans hm4)
 have HR4 := Lib.hid (HR0.out.mv HM4.out)
 obtain ⟨a40, a41, a42, a4z⟩ := HR4.out.facts
 have hz4 : w.heap.size < w4.heap.size := Nat.lt_of_lt_of_le hsz HM4.out.1.size
 clear hm4
 go_wp2_with fail
 refine (refuse_any rb lg e cb 8 (ah + k) (by decide) _ (HE.out.below (HMW.out.trans HM4.out).1) a42).mono ?_
 rintro e w5 ⟨v, rfl, her5, hb⟩
 have hm5 := Mv.below HR4.out.2.1 hb
 have HM5 := Lib.hid (HM4.out.trans hm5)
 have HR5 := Lib.hid (HR0.out.mv HM5.out)
 obtain ⟨a50, a51, a52, a5z⟩ := HR5.out.facts
 have hz5 : w.heap.size < w5.heap.size := Nat.lt_of_lt_of_le hsz HM5.out.1.size
 clear hm5
 have HER := Lib.hid her5
 clear her5 hb
 have hg := (HM5.out.2.2 w.heap.size hsz (by omega)).trans HG0.out
 obtain ⟨⟨c0, c1, c2, c3, c4, c5, c6⟩, ⟨g0, g1, g2, g3, g4, g5, g6⟩, hgz⟩ := cells7 hg
 clear hg
 go_wp2
 refine bodyPost_ret (by simp [results, Tryz.results103, go_sem, c0, c1, c2, c3, c4, c5, c6]; rfl) rfl ⟨v, _, by unfold IV; rw [item_no.1, item_no.2.1, item_no.2.2.1, item_no.2.2.2]; rfl, (Mv.setOther (Mv.setOther (Mv.setOther (Mv.setOther (Mv.setOther (Mv.setOther (Mv.setOther (HMW.out.trans HM5.out) w.heap.size 0 _ (Nat.le_refl _) hcb) w.heap.size 1 _ (Nat.le_refl _) hcb) w.heap.size 2 _ (Nat.le_refl _) hcb) w.heap.size 3 _ (Nat.le_refl _) hcb) w.heap.size 4 _ (Nat.le_refl _) hcb) w.heap.size 5 _ (Nat.le_refl _) hcb) w.heap.size 6 _ (Nat.le_refl _) hcb), ?_⟩
 exact (ErrS.set (ErrS.set (ErrS.set (ErrS.set (ErrS.set (ErrS.set (ErrS.set (HER.out.lower (by omega)) w.heap.size 0 _ (by omega)) w.heap.size 1 _ (by omega)) w.heap.size 2 _ (by omega)) w.heap.size 3 _ (by omega)) w.heap.size 4 _ (by omega)) w.heap.size 5 _ (by omega)) w.heap.size 6 _ (by omega))
theorem itx_cls (cf : ByteArray → (Nat → Bool) × Bool) (hcf : ClassOk cf) (e : Nat → Addr) (rb cb : Nat) (s : ByteArray) (k ah : Nat) (lg : Int) (hb47 : s.size ≤ 140737488351232) (w : World) (he : Es w cb e) (h : Rdr w rb cb s k ah lg) (h1 : atB s k = 91) (h2 : atB s (k + 1) = 58) (hc : (cf (cnN s (k + 2))).2 = true) :
  Calls Tryz.prog 103 #[.pointer (some ⟨rb, 0, none⟩)] w fun x w' => x = .returned (.tuple #[IV (ah + k) true (cf (cnN s (k + 2))).1 0, .nilIface]) ∧ ∃ k', Mv cb s k' w w' ∧ ∀ y, cnE s (s.size - (k + 2)) (k + 2) = some y → k' = y + 2 := by
 have HH := Lib.hid h
 have HE := Lib.hid he
 have HCF := Lib.hid hcf
 have HP : Hid (∀ (j : Nat) (w' : World), Rdr w' rb cb s j ah lg → Calls Tryz.prog 90 #[.pointer (some ⟨rb, 0, none⟩)] w' fun e w'' => e = .returned (.int .i64 (ah + j : Nat)) ∧ Mv cb s j w' w'') := Lib.hid fun j w' h' => place_any rb cb s j ah lg w' h'
 have HT58 : Hid (∀ w', Cur w' cb s k → Calls Tryz.prog 77 #[.pointer (some ⟨cb, 0, none⟩), .string ⟨#[91, 58]⟩] w' fun e w'' => e = .returned (.bool true) ∧ Mv cb s (k + 2) w' w'') := Lib.hid fun w' h' => take2_yes cb k s 91 58 w' h' (by decide) (by decide) h1 h2
 have HC : ∀ w, Hid (Calls Tryz.prog 108 #[.string (cnN s (k + 2))] w fun e w' => e = .returned (.tuple #[SV (cf (cnN s (k + 2))).1, .bool true]) ∧ Below w.heap.size w w') := fun w => Lib.hid (by have := hcf.prog (cnN s (k + 2)) w; rwa [hc] at this)
 have HCN : Hid (∀ w', Rdr w' rb cb s (k + 2) ah lg → Calls Tryz.prog 109 #[.pointer (some ⟨rb, 0, none⟩)] w' fun e w'' => ∃ k', e = .returned (.string (cnN s (k + 2))) ∧ Mv cb s k' w' w'' ∧ (∀ x, cnE s (s.size - (k + 2)) (k + 2) = some x → k' = x + 2)) := Lib.hid fun w' h' => cname_any rb cb s (k + 2) ah lg w' hb47 h'
 clear h1 h2 hc
 generalize (cf (cnN s (k + 2))).1 = p at *
 generalize cnN s (k + 2) = nm at *
 clear h he hcf 
 go_enter Tryz.func103, Tryz.ntmps103
 go_wp2_with fail
 obtain ⟨W, hW⟩ : ∃ W, W = w.alloc (.cells #[.int .i64 0, .bool false, .int .u64 0, .int .u64 0, .int .u64 0, .int .u64 0, .int .u8 0] 193) := ⟨_, rfl⟩
 rw [← hW]
 have HMW : Hid (Mv cb s k w W) := Lib.hid (by rw [hW]; exact Mv.below HH.out.2.1 ((Below.refl _ _).alloc (Nat.le_refl _) _))
 have HG0 : Hid (W.heap[w.heap.size]? = some (.cells #[.int .i64 0, .bool false, .int .u64 0, .int .u64 0, .int .u64 0, .int .u64 0, .int .u8 0] 193)) := Lib.hid (by rw [hW]; exact alloc_last w _)
 have hsz : w.heap.size < W.heap.size := by rw [hW]; simp
 clear hW
 have hcb := HH.out.lt.2
 have HR0 := Lib.hid (HH.out.mv HMW.out)
 have HM0 := Lib.hid (Mv.refl HR0.out.2.1)
 refine (HP.out k _ HR0.out).mono ?_
 rintro e w1 ⟨rfl, hm1⟩
 have HM1 := Lib.hid (HM0.out.trans hm1)
 have HR1 := Lib.hid (HR0.out.mv HM1.out)
 obtain ⟨a10, a11, a12, a1z⟩ := HR1.out.facts
 have hz1 : w.heap.size < w1.heap.size := Nat.lt_of_lt_of_le hsz HM1.out.1.size
 clear hm1
 go_wp2_with fail
 refine (HT58.out _ HR1.out.2.1).mono ?_
 rintro e w2 ⟨rfl, hm2⟩
 have HM2 := Lib.hid (HM1.out.trans hm2)
 have HR2 := Lib.hid (HR0.out.mv HM2.out)
 obtain ⟨a20, a21, a22, a2z⟩ := HR2.out.facts
 have hz2 : w.heap.size < w2.heap.size := Nat.lt_of_lt_of_le hsz HM2.out.1.size
 clear hm2
 go_wp2_with fail
 refine (HCN.out _ HR2.out).mono ?_
 rintro e w3 ⟨k', rfl, hm3, hk'⟩
 have HM3 := Lib.hid (HM2.out.trans hm3)
 have HR3 := Lib.hid (HR0.out.mv HM3.out)
 obtain ⟨a30, a31, a32, a3z⟩ := HR3.out.facts
 have hz3 : w.heap.size < w3.heap.size := Nat.lt_of_lt_of_le hsz HM3.out.1.size
 clear hm3
 have HKK := Lib.hid hk'
 clear hk'
 go_wp2_with fail
 refine ((HC _).out).mono ?_
 rintro e w4 ⟨rfl, hb⟩
 have hm4 := Mv.below HR3.out.2.1 hb
 have HM4 := Lib.hid (HM3.out.trans hm4)
 have HR4 := Lib.hid (HR0.out.mv HM4.out)
 obtain ⟨a40, a41, a42, a4z⟩ := HR4.out.facts
 have hz4 : w.heap.size < w4.heap.size := Nat.lt_of_lt_of_le hsz HM4.out.1.size
 clear hm4
 clear hb
 unfold SV
 have hg := (HM4.out.2.2 w.heap.size hsz (by omega)).trans HG0.out
 obtain ⟨⟨c0, c1, c2, c3, c4, c5, c6⟩, ⟨g0, g1, g2, g3, g4, g5, g6⟩, hgz⟩ := cells7 hg
 clear hg
 go_wp2
 refine bodyPost_ret (by simp [results, Tryz.results103, go_sem, c0, c1, c2, c3, c4, c5, c6, hgz]; rfl) rfl ⟨by unfold IV; rfl, k', Mv.alo (Mv.setOther (Mv.setOther (Mv.setOther (Mv.setOther (Mv.setOther (Mv.setOther (Mv.setOther (HMW.out.trans HM4.out) w.heap.size 0 _ (Nat.le_refl _) hcb) w.heap.size 1 _ (Nat.le_refl _) hcb) w.heap.size 2 _ (Nat.le_refl _) hcb) w.heap.size 3 _ (Nat.le_refl _) hcb) w.heap.size 4 _ (Nat.le_refl _) hcb) w.heap.size 5 _ (Nat.le_refl _) hcb) w.heap.size 6 _ (Nat.le_refl _) hcb) _, HKK.out⟩
theorem itx_nocls (cf : ByteArray → (Nat → Bool) × Bool) (hcf : ClassOk cf) (e : Nat → Addr) (rb cb : Nat) (s : ByteArray) (k ah : Nat) (lg : Int) (hb47 : s.size ≤ 140737488351232) (w : World) (he : Es w cb e) (h : Rdr w rb cb s k ah lg) (h1 : atB s k = 91) (h2 : atB s (k + 1) = 58) (hc : (cf (cnN s (k + 2))).2 = false) :
  Calls Tryz.prog 103 #[.pointer (some ⟨rb, 0, none⟩)] w fun x w' => ∃ v k', x = .returned (.tuple #[IV 0 false noP 0, v]) ∧ Mv cb s k' w w' ∧ ErrS w' (w.heap.size + 1) e lg 8 (ah + k : Nat) v := by
 have HH := Lib.hid h
 have HE := Lib.hid he
 have HCF := Lib.hid hcf
 have HP : Hid (∀ (j : Nat) (w' : World), Rdr w' rb cb s j ah lg → Calls Tryz.prog 90 #[.pointer (some ⟨rb, 0, none⟩)] w' fun e w'' => e = .returned (.int .i64 (ah + j : Nat)) ∧ Mv cb s j w' w'') := Lib.hid fun j w' h' => place_any rb cb s j ah lg w' h'
 have HT58 : Hid (∀ w', Cur w' cb s k → Calls Tryz.prog 77 #[.pointer (some ⟨cb, 0, none⟩), .string ⟨#[91, 58]⟩] w' fun e w'' => e = .returned (.bool true) ∧ Mv cb s (k + 2) w' w'') := Lib.hid fun w' h' => take2_yes cb k s 91 58 w' h' (by decide) (by decide) h1 h2
 have HC : ∀ w, Hid (Calls Tryz.prog 108 #[.string (cnN s (k + 2))] w fun e w' => e = .returned (.tuple #[SV (cf (cnN s (k + 2))).1, .bool false]) ∧ Below w.heap.size w w') := fun w => Lib.hid (by have := hcf.prog (cnN s (k + 2)) w; rwa [hc] at this)
 have HCN : Hid (∀ w', Rdr w' rb cb s (k + 2) ah lg → Calls Tryz.prog 109 #[.pointer (some ⟨rb, 0, none⟩)] w' fun e w'' => ∃ k', e = .returned (.string (cnN s (k + 2))) ∧ Mv cb s k' w' w'' ∧ (∀ x, cnE s (s.size - (k + 2)) (k + 2) = some x → k' = x + 2)) := Lib.hid fun w' h' => cname_any rb cb s (k + 2) ah lg w' hb47 h'
 clear h1 h2 hc
 generalize (cf (cnN s (k + 2))).1 = p at *
 generalize cnN s (k + 2) = nm at *
 clear h he hcf 
 go_enter Tryz.func103, Tryz.ntmps103
 go_wp2_with fail
 obtain ⟨W, hW⟩ : ∃ W, W = w.alloc (.cells #[.int .i64 0, .bool false, .int .u64 0, .int .u64 0, .int .u64 0, .int .u64 0, .int .u8 0] 193) := ⟨_, rfl⟩
 rw [← hW]
 have HMW : Hid (Mv cb s k w W) := Lib.hid (by rw [hW]; exact Mv.below HH.out.2.1 ((Below.refl _ _).alloc (Nat.le_refl _) _))
 have HG0 : Hid (W.heap[w.heap.size]? = some (.cells #[.int .i64 0, .bool false, .int .u64 0, .int .u64 0, .int .u64 0, .int .u64 0, .int .u8 0] 193)) := Lib.hid (by rw [hW]; exact alloc_last w _)
 have hsz : w.heap.size < W.heap.size := by rw [hW]; simp
 clear hW
 have hcb := HH.out.lt.2
 have HR0 := Lib.hid (HH.out.mv HMW.out)
 have HM0 := Lib.hid (Mv.refl HR0.out.2.1)
 refine (HP.out k _ HR0.out).mono ?_
 rintro e w1 ⟨rfl, hm1⟩
 have HM1 := Lib.hid (HM0.out.trans hm1)
 have HR1 := Lib.hid (HR0.out.mv HM1.out)
 obtain ⟨a10, a11, a12, a1z⟩ := HR1.out.facts
 have hz1 : w.heap.size < w1.heap.size := Nat.lt_of_lt_of_le hsz HM1.out.1.size
 clear hm1
 go_wp2_with fail
 refine (HT58.out _ HR1.out.2.1).mono ?_
 rintro e w2 ⟨rfl, hm2⟩
 have HM2 := Lib.hid (HM1.out.trans hm2)
 have HR2 := Lib.hid (HR0.out.mv HM2.out)
 obtain ⟨a20, a21, a22, a2z⟩ := HR2.out.facts
 have hz2 : w.heap.size < w2.heap.size := Nat.lt_of_lt_of_le hsz HM2.out.1.size
 clear hm2
 go_wp2_with fail
 refine (HCN.out _ HR2.out).mono ?_
 rintro e w3 ⟨k', rfl, hm3, hk'⟩
 have HM3 := Lib.hid (HM2.out.trans hm3)
 have HR3 := Lib.hid (HR0.out.mv HM3.out)
 obtain ⟨a30, a31, a32, a3z⟩ := HR3.out.facts
 have hz3 : w.heap.size < w3.heap.size := Nat.lt_of_lt_of_le hsz HM3.out.1.size
 clear hm3
 have HKK := Lib.hid hk'
 clear hk'
 go_wp2_with fail
 refine ((HC _).out).mono ?_
 rintro e w4 ⟨rfl, hb⟩
 have hm4 := Mv.below HR3.out.2.1 hb
 have HM4 := Lib.hid (HM3.out.trans hm4)
 have HR4 := Lib.hid (HR0.out.mv HM4.out)
 obtain ⟨a40, a41, a42, a4z⟩ := HR4.out.facts
 have hz4 : w.heap.size < w4.heap.size := Nat.lt_of_lt_of_le hsz HM4.out.1.size
 clear hm4
 clear hb
 unfold SV
 obtain ⟨V, hV⟩ : ∃ V, V = w4.alloc (.cells #[.int .u64 (sw p 0 : Nat), .int .u64 (sw p 1 : Nat), .int .u64 (sw p 2 : Nat), .int .u64 (sw p 3 : Nat)] 54) := ⟨_, rfl⟩
 have HMV := Lib.hid (HM4.out.alo (.cells #[.int .u64 (sw p 0 : Nat), .int .u64 (sw p 1 : Nat), .int .u64 (sw p 2 : Nat), .int .u64 (sw p 3 : Nat)] 54))
 rw [← hV] at HMV
 have HRV := Lib.hid (HR0.out.mv HMV.out)
 obtain ⟨b0, b1, b2, bz⟩ := HRV.out.facts
 have hzV : w.heap.size < V.heap.size := Nat.lt_of_lt_of_le hsz HMV.out.1.size
 go_wp2_with fail
 rw [← hV]
 refine (refuse_any rb lg e cb 8 (ah + k) (by decide) _ (HE.out.below (HMW.out.trans HMV.out).1) b2).mono ?_
 rintro x wf ⟨v, rfl, her, hb⟩
 have HMF := Lib.hid (HMV.out.trans (Mv.below HRV.out.2.1 hb))
 have HER := Lib.hid her
 have hzF : w.heap.size < wf.heap.size := Nat.lt_of_lt_of_le hsz HMF.out.1.size
 clear her hb hV
 have hg := (HMF.out.2.2 w.heap.size hsz (by omega)).trans HG0.out
 obtain ⟨⟨c0, c1, c2, c3, c4, c5, c6⟩, ⟨g0, g1, g2, g3, g4, g5, g6⟩, hgz⟩ := cells7 hg
 clear hg
 go_wp2
 refine bodyPost_ret (by simp [results, Tryz.results103, go_sem, c0, c1, c2, c3, c4, c5, c6]; rfl) rfl ⟨v, _, by unfold IV; rw [item_no.1, item_no.2.1, item_no.2.2.1, item_no.2.2.2]; rfl, (Mv.setOther (Mv.setOther (Mv.setOther (Mv.setOther (Mv.setOther (Mv.setOther (Mv.setOther (HMW.out.trans HMF.out) w.heap.size 0 _ (Nat.le_refl _) hcb) w.heap.size 1 _ (Nat.le_refl _) hcb) w.heap.size 2 _ (Nat.le_refl _) hcb) w.heap.size 3 _ (Nat.le_refl _) hcb) w.heap.size 4 _ (Nat.le_refl _) hcb) w.heap.size 5 _ (Nat.le_refl _) hcb) w.heap.size 6 _ (Nat.le_refl _) hcb), ?_⟩
 exact (ErrS.set (ErrS.set (ErrS.set (ErrS.set (ErrS.set (ErrS.set (ErrS.set (HER.out.lower (by omega)) w.heap.size 0 _ (by omega)) w.heap.size 1 _ (by omega)) w.heap.size 2 _ (by omega)) w.heap.size 3 _ (by omega)) w.heap.size 4 _ (by omega)) w.heap.size 5 _ (by omega)) w.heap.size 6 _ (by omega))
def ItemPost (cf : ByteArray → (Nat → Bool) × Bool) (e : Nat → Addr) (cb : Nat) (s : ByteArray) (k ah : Nat) (lg : Int) (w : World) (x : Ending) (w' : World) : Prop :=
 match itemR cf s (decide (lg = 2)) k with
 | .byt c nx => x = .returned (.tuple #[IV (ah + k) false noP c, .nilIface]) ∧ Mv cb s nx w w'
 | .cls p nx => x = .returned (.tuple #[IV (ah + k) true p 0, .nilIface]) ∧ Mv cb s nx w w'
 | .bad pos => ∃ v k', x = .returned (.tuple #[IV 0 false noP 0, v]) ∧ Mv cb s k' w w' ∧ ErrS w' (w.heap.size + 1) e lg 8 (ah + pos : Nat) v
theorem item_any (cf : ByteArray → (Nat → Bool) × Bool) (hcf : ClassOk cf) (e : Nat → Addr) (rb cb : Nat) (s : ByteArray) (k ah : Nat) (lg : Int) (hb47 : s.size ≤ 140737488351232) (w : World) (he : Es w cb e) (h : Rdr w rb cb s k ah lg) :
  Calls Tryz.prog 103 #[.pointer (some ⟨rb, 0, none⟩)] w (ItemPost cf e cb s k ah lg w) := by
 have hks := h.2.1.2.1
 unfold ItemPost itemR
 by_cases c1 : atB s k = 91 ∧ atB s (k + 1) = 58
 ·rw [if_pos c1]
  cases hE : cnE s (s.size - (k + 2)) (k + 2) with
  | none =>
   have hN : cnN s (k + 2) = ⟨#[]⟩ := by unfold cnN; rw [hE]
   exact itx_nocls cf hcf e rb cb s k ah lg hb47 w he h c1.1 c1.2 (by rw [hN]; exact hcf.empty)
  | some y =>
   have hN : cnN s (k + 2) = s.extract (k + 2) y := by unfold cnN; rw [hE]
   simp only
   rw [← hN]
   cases hc : (cf (cnN s (k + 2))).2 with
   | true =>
    rw [if_pos rfl]
    refine (itx_cls cf hcf e rb cb s k ah lg hb47 w he h c1.1 c1.2 hc).mono ?_
    rintro x w' ⟨rfl, k', hm, hk'⟩
    rw [hk' y hE] at hm
    exact ⟨rfl, hm⟩
   | false =>
    rw [if_neg (by decide)]
    exact itx_nocls cf hcf e rb cb s k ah lg hb47 w he h c1.1 c1.2 hc
 rw [if_neg c1]
 by_cases c2 : atB s k = 91 ∧ (atB s (k + 1) = 46 ∨ atB s (k + 1) = 61)
 ·rw [if_pos c2]
  rcases c2.2 with h2 | h2
  ·exact itx_dot cf hcf e rb cb s k ah lg w he h c2.1 h2
  ·exact itx_eq cf hcf e rb cb s k ah lg w he h c2.1 h2
 rw [if_neg c2]
 have n2 : ¬ (atB s k = 91 ∧ atB s (k + 1) = 46) := fun h => c2 ⟨h.1, Or.inl h.2⟩
 have n3 : ¬ (atB s k = 91 ∧ atB s (k + 1) = 61) := fun h => c2 ⟨h.1, Or.inr h.2⟩
 by_cases hlg : lg = 2
 ·by_cases c3 : atB s k = 92
  ·rw [if_pos ⟨by simpa using hlg, c3⟩]
   by_cases hk : k + 1 < s.size
   ·rw [if_pos hk]
    exact itx_esc cf hcf e rb cb s k ah lg w he h hlg hk c3
   ·rw [if_neg hk]
    exact itx_ende cf hcf e rb cb s k ah lg w he h hlg hk c3
  ·rw [if_neg (fun h => c3 h.2)]
   by_cases hk : k < s.size
   ·rw [if_pos hk]
    exact itx_glob cf hcf e rb cb s k ah lg w he h hlg hk c1 n2 n3 c3
   ·rw [if_neg hk]
    exact itx_endg cf hcf e rb cb s k ah lg w he h hlg hk c1 n2 n3 c3
 ·rw [if_neg (fun h => hlg (by simpa using h.1))]
  by_cases hk : k < s.size
  ·rw [if_pos hk]
   exact itx_byte cf hcf e rb cb s k ah lg w he h hlg hk c1 n2 n3
  ·rw [if_neg hk]
   exact itx_end cf hcf e rb cb s k ah lg w he h hlg hk c1 n2 n3
theorem ErrS.iface {w : World} {B : Nat} {e : Nat → Addr} {lg : Int} {c : Nat} {p : Int} {v : Value} (h : ErrS w B e lg c p v) : ∃ k, v = .iface 95 (.pointer (some ⟨k, 0, none⟩)) := by
 obtain ⟨k, j, rfl, _⟩ := h
 exact ⟨k, rfl⟩
theorem part_bad1 (e : Nat → Addr) (rb cb : Nat) (s : ByteArray) (k ah ps : Nat) (lg : Int) (w : World) (he : Es w cb e) (h : Rdr w rb cb s k ah lg) (hi : ∀ w', Rdr w' rb cb s k ah lg → Es w' cb e → Calls Tryz.prog 103 #[.pointer (some ⟨rb, 0, none⟩)] w' fun x w'' => ∃ v k', x = .returned (.tuple #[IV 0 false noP 0, v]) ∧ Mv cb s k' w' w'' ∧ ErrS w'' (w'.heap.size + 1) e lg 8 (ps : Nat) v) :
  Calls Tryz.prog 97 #[.pointer (some ⟨rb, 0, none⟩)] w fun x w' => ∃ v k', x = .returned (.tuple #[SV noP, v]) ∧ Mv cb s k' w w' ∧ ErrS w' (w.heap.size + 1) e lg 8 (ps : Nat) v := by
 have HH := Lib.hid h
 have HE := Lib.hid he
 have HI := Lib.hid hi
 clear h he hi
 go_enter Tryz.func97, Tryz.ntmps97
 go_wp2_with fail
 obtain ⟨W, hW⟩ : ∃ W, W = w.alloc (.cells #[.int .u64 0, .int .u64 0, .int .u64 0, .int .u64 0] 54) := ⟨_, rfl⟩
 rw [← hW]
 have HMW : Hid (Mv cb s k w W) := Lib.hid (by rw [hW]; exact Mv.below HH.out.2.1 ((Below.refl _ _).alloc (Nat.le_refl _) _))
 have HG0 : Hid (W.heap[w.heap.size]? = some (.cells #[.int .u64 0, .int .u64 0, .int .u64 0, .int .u64 0] 54)) := Lib.hid (by rw [hW]; exact alloc_last w _)
 have hsz : w.heap.size < W.heap.size := by rw [hW]; simp
 clear hW
 have hcb := HH.out.lt.2
 have HR0 := Lib.hid (HH.out.mv HMW.out)
 have HM0 := Lib.hid (Mv.refl HR0.out.2.1)
 have HE0 := Lib.hid (HE.out.below HMW.out.1)
 refine (HI.out _ HR0.out HE0.out).mono ?_
 rintro e' w1 ⟨v, k', rfl, hm1, her⟩
 have HM1 := Lib.hid (HM0.out.trans hm1)
 have HR1 := Lib.hid (HR0.out.mv HM1.out)
 obtain ⟨a10, a11, a12, a1z⟩ := HR1.out.facts
 have hsz1 : w.heap.size < w1.heap.size := Nat.lt_of_lt_of_le hsz HM1.out.1.size
 clear hm1
 have HER := Lib.hid her
 obtain ⟨kk, rfl⟩ := her.iface
 clear her
 unfold IV
 have hg := (HM1.out.2.2 w.heap.size hsz (by omega)).trans HG0.out
 obtain ⟨⟨c0, c1, c2, c3⟩, ⟨g0, g1, g2, g3⟩, hgz⟩ := cells4 hg
 clear hg
 go_wp2
 refine bodyPost_ret (by simp [results, Tryz.results97, go_sem, c0, c1, c2, c3, hgz]; rfl) rfl ⟨_, _, by unfold SV; rw [item_no.1, item_no.2.1, item_no.2.2.1, item_no.2.2.2], (Mv.alo (Mv.setOther (Mv.setOther (Mv.setOther (Mv.setOther (HMW.out.trans HM1.out) w.heap.size 0 _ (Nat.le_refl _) hcb) w.heap.size 1 _ (Nat.le_refl _) hcb) w.heap.size 2 _ (Nat.le_refl _) hcb) w.heap.size 3 _ (Nat.le_refl _) hcb) _), ?_⟩
 exact (ErrS.below (ErrS.set (ErrS.set (ErrS.set (ErrS.set (HER.out.lower (by omega)) w.heap.size 0 _ (by omega)) w.heap.size 1 _ (by omega)) w.heap.size 2 _ (by omega)) w.heap.size 3 _ (by omega)) ((Below.refl _ _).alloc (Nat.le_refl _) _))
theorem part_bad2 (e : Nat → Addr) (rb cb : Nat) (s : ByteArray) (k ah k1 pl c ps : Nat) (lg : Int) (w : World) (he : Es w cb e) (h : Rdr w rb cb s k ah lg) (hi : ∀ w', Rdr w' rb cb s k ah lg → Es w' cb e → Calls Tryz.prog 103 #[.pointer (some ⟨rb, 0, none⟩)] w' fun e w'' => e = .returned (.tuple #[IV pl false noP c, .nilIface]) ∧ Mv cb s k1 w' w'')
  (hd : ∀ w', Rdr w' rb cb s k1 ah lg → Calls Tryz.prog 104 #[.pointer (some ⟨rb, 0, none⟩)] w' fun e w'' => e = .returned (.bool true) ∧ Mv cb s (k1 + 1) w' w'')
  (hj : ∀ w', Rdr w' rb cb s (k1 + 1) ah lg → Es w' cb e → Calls Tryz.prog 103 #[.pointer (some ⟨rb, 0, none⟩)] w' fun x w'' => ∃ v k', x = .returned (.tuple #[IV 0 false noP 0, v]) ∧ Mv cb s k' w' w'' ∧ ErrS w'' (w'.heap.size + 1) e lg 8 (ps : Nat) v) :
  Calls Tryz.prog 97 #[.pointer (some ⟨rb, 0, none⟩)] w fun x w' => ∃ v k', x = .returned (.tuple #[SV noP, v]) ∧ Mv cb s k' w w' ∧ ErrS w' (w.heap.size + 1) e lg 8 (ps : Nat) v := by
 have HH := Lib.hid h
 have HE := Lib.hid he
 have HI := Lib.hid hi
 clear h he hi
 have HD := Lib.hid hd
 have HJ := Lib.hid hj
 clear hd hj
 go_enter Tryz.func97, Tryz.ntmps97
 go_wp2_with fail
 obtain ⟨W, hW⟩ : ∃ W, W = w.alloc (.cells #[.int .u64 0, .int .u64 0, .int .u64 0, .int .u64 0] 54) := ⟨_, rfl⟩
 rw [← hW]
 have HMW : Hid (Mv cb s k w W) := Lib.hid (by rw [hW]; exact Mv.below HH.out.2.1 ((Below.refl _ _).alloc (Nat.le_refl _) _))
 have HG0 : Hid (W.heap[w.heap.size]? = some (.cells #[.int .u64 0, .int .u64 0, .int .u64 0, .int .u64 0] 54)) := Lib.hid (by rw [hW]; exact alloc_last w _)
 have hsz : w.heap.size < W.heap.size := by rw [hW]; simp
 clear hW
 have hcb := HH.out.lt.2
 have HR0 := Lib.hid (HH.out.mv HMW.out)
 have HM0 := Lib.hid (Mv.refl HR0.out.2.1)
 have HE0 := Lib.hid (HE.out.below HMW.out.1)
 refine (HI.out _ HR0.out HE0.out).mono ?_
 rintro e' w1 ⟨rfl, hm1⟩
 have HM1 := Lib.hid (HM0.out.trans hm1)
 have HR1 := Lib.hid (HR0.out.mv HM1.out)
 obtain ⟨a10, a11, a12, a1z⟩ := HR1.out.facts
 have hsz1 : w.heap.size < w1.heap.size := Nat.lt_of_lt_of_le hsz HM1.out.1.size
 clear hm1
 unfold IV
 go_wp2_with fail
 obtain ⟨w2, hV⟩ : ∃ V, V = w1.alloc (.cells #[.int .i64 pl, .bool false, .int .u64 (sw noP 0 : Nat), .int .u64 (sw noP 1 : Nat), .int .u64 (sw noP 2 : Nat), .int .u64 (sw noP 3 : Nat), .int .u8 c] 193) := ⟨_, rfl⟩
 rw [← hV]
 have HA2 := Lib.hid (show Mv cb s _ w1 w2 by rw [hV]; exact Mv.below HR1.out.2.1 ((Below.refl _ _).alloc (Nat.le_refl _) _))
 have HM2 := Lib.hid (HM1.out.trans HA2.out)
 have HBA : Hid (w2.heap[w1.heap.size]? = some (.cells #[.int .i64 pl, .bool false, .int .u64 (sw noP 0 : Nat), .int .u64 (sw noP 1 : Nat), .int .u64 (sw noP 2 : Nat), .int .u64 (sw noP 3 : Nat), .int .u8 c] 193)) := Lib.hid (by rw [hV]; exact alloc_last _ _)
 have hzA : w1.heap.size < w2.heap.size := by rw [hV]; simp
 have hWA : cb < w1.heap.size := HR1.out.lt.2
 clear hV
 have HR2 := Lib.hid (HR0.out.mv HM2.out)
 have hsz2 : w.heap.size < w2.heap.size := Nat.lt_of_lt_of_le hsz HM2.out.1.size
 obtain ⟨a20, a21, a22, a2z⟩ := HR2.out.facts
 have HN2 := Lib.hid (Mv.refl HR2.out.2.1)
 refine (HD.out _ HR2.out).mono ?_
 rintro e' w3 ⟨rfl, hm3⟩
 have HM3 := Lib.hid (HM2.out.trans hm3)
 have HR3 := Lib.hid (HR0.out.mv HM3.out)
 have HN3 := Lib.hid (HN2.out.trans hm3)
 obtain ⟨a30, a31, a32, a3z⟩ := HR3.out.facts
 have hsz3 : w.heap.size < w3.heap.size := Nat.lt_of_lt_of_le hsz HM3.out.1.size
 clear hm3
 have hbA := (HN3.out.2.2 w1.heap.size hzA (by omega)).trans HBA.out
 obtain ⟨⟨p0, p1, p2, p3, p4, p5, p6⟩, ⟨pg0, pg1, pg2, pg3, pg4, pg5, pg6⟩, pz⟩ := cells7 hbA
 clear hbA
 go_wp2_with fail
 refine (HJ.out _ HR3.out (HE0.out.below HM3.out.1)).mono ?_
 rintro e' w4 ⟨v, k', rfl, hm4, her⟩
 have HM4 := Lib.hid (HM3.out.trans hm4)
 have HR4 := Lib.hid (HR0.out.mv HM4.out)
 obtain ⟨a40, a41, a42, a4z⟩ := HR4.out.facts
 have hsz4 : w.heap.size < w4.heap.size := Nat.lt_of_lt_of_le hsz HM4.out.1.size
 clear hm4
 have HER := Lib.hid her
 obtain ⟨kk, rfl⟩ := her.iface
 clear her
 unfold IV
 have hg := (HM4.out.2.2 w.heap.size hsz (by omega)).trans HG0.out
 obtain ⟨⟨c0, c1, c2, c3⟩, ⟨g0, g1, g2, g3⟩, hgz⟩ := cells4 hg
 clear hg
 go_wp2
 refine bodyPost_ret (by simp [results, Tryz.results97, go_sem, c0, c1, c2, c3, hgz]; rfl) rfl ⟨_, _, by unfold SV; rw [item_no.1, item_no.2.1, item_no.2.2.1, item_no.2.2.2], (Mv.alo (Mv.setOther (Mv.setOther (Mv.setOther (Mv.setOther (HMW.out.trans HM4.out) w.heap.size 0 _ (Nat.le_refl _) hcb) w.heap.size 1 _ (Nat.le_refl _) hcb) w.heap.size 2 _ (Nat.le_refl _) hcb) w.heap.size 3 _ (Nat.le_refl _) hcb) _), ?_⟩
 exact (ErrS.below (ErrS.set (ErrS.set (ErrS.set (ErrS.set (HER.out.lower (by omega)) w.heap.size 0 _ (by omega)) w.heap.size 1 _ (by omega)) w.heap.size 2 _ (by omega)) w.heap.size 3 _ (by omega)) ((Below.refl _ _).alloc (Nat.le_refl _) _))
theorem part_dcls (e : Nat → Addr) (rb cb : Nat) (s : ByteArray) (k ah k1 k2 pl c pl2 : Nat) (lg : Int) (w : World) (he : Es w cb e) (h : Rdr w rb cb s k ah lg) (p : Nat → Bool)
  (hi : ∀ w', Rdr w' rb cb s k ah lg → Es w' cb e → Calls Tryz.prog 103 #[.pointer (some ⟨rb, 0, none⟩)] w' fun e w'' => e = .returned (.tuple #[IV pl false noP c, .nilIface]) ∧ Mv cb s k1 w' w'')
  (hd : ∀ w', Rdr w' rb cb s k1 ah lg → Calls Tryz.prog 104 #[.pointer (some ⟨rb, 0, none⟩)] w' fun e w'' => e = .returned (.bool true) ∧ Mv cb s (k1 + 1) w' w'')
  (hj : ∀ w', Rdr w' rb cb s (k1 + 1) ah lg → Es w' cb e → Calls Tryz.prog 103 #[.pointer (some ⟨rb, 0, none⟩)] w' fun e w'' => e = .returned (.tuple #[IV pl2 true p 0, .nilIface]) ∧ Mv cb s k2 w' w'') :
  Calls Tryz.prog 97 #[.pointer (some ⟨rb, 0, none⟩)] w fun x w' => ∃ v k', x = .returned (.tuple #[SV noP, v]) ∧ Mv cb s k' w w' ∧ ErrS w' (w.heap.size + 1) e lg 8 (pl2 : Nat) v := by
 have HH := Lib.hid h
 have HE := Lib.hid he
 have HI := Lib.hid hi
 clear h he hi
 have HD := Lib.hid hd
 have HJ := Lib.hid hj
 clear hd hj
 go_enter Tryz.func97, Tryz.ntmps97
 go_wp2_with fail
 obtain ⟨W, hW⟩ : ∃ W, W = w.alloc (.cells #[.int .u64 0, .int .u64 0, .int .u64 0, .int .u64 0] 54) := ⟨_, rfl⟩
 rw [← hW]
 have HMW : Hid (Mv cb s k w W) := Lib.hid (by rw [hW]; exact Mv.below HH.out.2.1 ((Below.refl _ _).alloc (Nat.le_refl _) _))
 have HG0 : Hid (W.heap[w.heap.size]? = some (.cells #[.int .u64 0, .int .u64 0, .int .u64 0, .int .u64 0] 54)) := Lib.hid (by rw [hW]; exact alloc_last w _)
 have hsz : w.heap.size < W.heap.size := by rw [hW]; simp
 clear hW
 have hcb := HH.out.lt.2
 have HR0 := Lib.hid (HH.out.mv HMW.out)
 have HM0 := Lib.hid (Mv.refl HR0.out.2.1)
 have HE0 := Lib.hid (HE.out.below HMW.out.1)
 refine (HI.out _ HR0.out HE0.out).mono ?_
 rintro e' w1 ⟨rfl, hm1⟩
 have HM1 := Lib.hid (HM0.out.trans hm1)
 have HR1 := Lib.hid (HR0.out.mv HM1.out)
 obtain ⟨a10, a11, a12, a1z⟩ := HR1.out.facts
 have hsz1 : w.heap.size < w1.heap.size := Nat.lt_of_lt_of_le hsz HM1.out.1.size
 clear hm1
 unfold IV
 go_wp2_with fail
 obtain ⟨w2, hV⟩ : ∃ V, V = w1.alloc (.cells #[.int .i64 pl, .bool false, .int .u64 (sw noP 0 : Nat), .int .u64 (sw noP 1 : Nat), .int .u64 (sw noP 2 : Nat), .int .u64 (sw noP 3 : Nat), .int .u8 c] 193) := ⟨_, rfl⟩
 rw [← hV]
 have HA2 := Lib.hid (show Mv cb s _ w1 w2 by rw [hV]; exact Mv.below HR1.out.2.1 ((Below.refl _ _).alloc (Nat.le_refl _) _))
 have HM2 := Lib.hid (HM1.out.trans HA2.out)
 have HBA : Hid (w2.heap[w1.heap.size]? = some (.cells #[.int .i64 pl, .bool false, .int .u64 (sw noP 0 : Nat), .int .u64 (sw noP 1 : Nat), .int .u64 (sw noP 2 : Nat), .int .u64 (sw noP 3 : Nat), .int .u8 c] 193)) := Lib.hid (by rw [hV]; exact alloc_last _ _)
 have hzA : w1.heap.size < w2.heap.size := by rw [hV]; simp
 have hWA : cb < w1.heap.size := HR1.out.lt.2
 clear hV
 have HR2 := Lib.hid (HR0.out.mv HM2.out)
 have hsz2 : w.heap.size < w2.heap.size := Nat.lt_of_lt_of_le hsz HM2.out.1.size
 obtain ⟨a20, a21, a22, a2z⟩ := HR2.out.facts
 have HN2 := Lib.hid (Mv.refl HR2.out.2.1)
 refine (HD.out _ HR2.out).mono ?_
 rintro e' w3 ⟨rfl, hm3⟩
 have HM3 := Lib.hid (HM2.out.trans hm3)
 have HR3 := Lib.hid (HR0.out.mv HM3.out)
 have HN3 := Lib.hid (HN2.out.trans hm3)
 obtain ⟨a30, a31, a32, a3z⟩ := HR3.out.facts
 have hsz3 : w.heap.size < w3.heap.size := Nat.lt_of_lt_of_le hsz HM3.out.1.size
 clear hm3
 have hbA := (HN3.out.2.2 w1.heap.size hzA (by omega)).trans HBA.out
 obtain ⟨⟨p0, p1, p2, p3, p4, p5, p6⟩, ⟨pg0, pg1, pg2, pg3, pg4, pg5, pg6⟩, pz⟩ := cells7 hbA
 clear hbA
 go_wp2_with fail
 refine (HJ.out _ HR3.out (HE0.out.below HM3.out.1)).mono ?_
 rintro e' w4 ⟨rfl, hm4⟩
 have HM4 := Lib.hid (HM3.out.trans hm4)
 have HR4 := Lib.hid (HR0.out.mv HM4.out)
 have HN4 := Lib.hid (HN3.out.trans hm4)
 obtain ⟨a40, a41, a42, a4z⟩ := HR4.out.facts
 have hsz4 : w.heap.size < w4.heap.size := Nat.lt_of_lt_of_le hsz HM4.out.1.size
 clear hm4
 have hbA := (HN4.out.2.2 w1.heap.size hzA (by omega)).trans HBA.out
 obtain ⟨⟨q0, q1, q2, q3, q4, q5, q6⟩, ⟨qg0, qg1, qg2, qg3, qg4, qg5, qg6⟩, qz⟩ := cells7 hbA
 clear hbA
 unfold IV
 go_wp2_with fail
 obtain ⟨w5, hV⟩ : ∃ V, V = w4.alloc (.cells #[.int .i64 pl2, .bool true, .int .u64 (sw p 0 : Nat), .int .u64 (sw p 1 : Nat), .int .u64 (sw p 2 : Nat), .int .u64 (sw p 3 : Nat), .int .u8 0] 193) := ⟨_, rfl⟩
 rw [← hV]
 have HA5 := Lib.hid (show Mv cb s _ w4 w5 by rw [hV]; exact Mv.below HR4.out.2.1 ((Below.refl _ _).alloc (Nat.le_refl _) _))
 have HM5 := Lib.hid (HM4.out.trans HA5.out)
 have HBB : Hid (w5.heap[w4.heap.size]? = some (.cells #[.int .i64 pl2, .bool true, .int .u64 (sw p 0 : Nat), .int .u64 (sw p 1 : Nat), .int .u64 (sw p 2 : Nat), .int .u64 (sw p 3 : Nat), .int .u8 0] 193)) := Lib.hid (by rw [hV]; exact alloc_last _ _)
 have hzB : w4.heap.size < w5.heap.size := by rw [hV]; simp
 have hWB : cb < w4.heap.size := HR4.out.lt.2
 clear hV
 have HR5 := Lib.hid (HR0.out.mv HM5.out)
 have hsz5 : w.heap.size < w5.heap.size := Nat.lt_of_lt_of_le hsz HM5.out.1.size
 obtain ⟨a50, a51, a52, a5z⟩ := HR5.out.facts
 have HN5 := Lib.hid (HN4.out.trans HA5.out)
 have HO5 := Lib.hid (Mv.refl HR5.out.2.1)
 have hbA := (HN5.out.2.2 w1.heap.size hzA (by omega)).trans HBA.out
 obtain ⟨⟨r0, r1, r2, r3, r4, r5, r6⟩, ⟨rg0, rg1, rg2, rg3, rg4, rg5, rg6⟩, rz⟩ := cells7 hbA
 clear hbA
 have hbB := (HO5.out.2.2 w4.heap.size hzB (by omega)).trans HBB.out
 obtain ⟨⟨t0, t1, t2, t3, t4, t5, t6⟩, ⟨tg0, tg1, tg2, tg3, tg4, tg5, tg6⟩, tz⟩ := cells7 hbB
 clear hbB
 go_wp2_with fail
 refine (refuse_any rb lg e cb 8 pl2 (by decide) _ (HE0.out.below HM5.out.1) a52).mono ?_
 rintro x w6 ⟨v, rfl, her, hb⟩
 have HM6 := Lib.hid (HM5.out.trans (Mv.below HR5.out.2.1 hb))
 have HER := Lib.hid her
 have hsz6 : w.heap.size < w6.heap.size := Nat.lt_of_lt_of_le hsz HM6.out.1.size
 clear her hb
 have hg := (HM6.out.2.2 w.heap.size hsz (by omega)).trans HG0.out
 obtain ⟨⟨c0, c1, c2, c3⟩, ⟨g0, g1, g2, g3⟩, hgz⟩ := cells4 hg
 clear hg
 go_wp2
 refine bodyPost_ret (by simp [results, Tryz.results97, go_sem, c0, c1, c2, c3]; rfl) rfl ⟨_, _, by unfold SV; rw [item_no.1, item_no.2.1, item_no.2.2.1, item_no.2.2.2], (Mv.setOther (Mv.setOther (Mv.setOther (Mv.setOther (HMW.out.trans HM6.out) w.heap.size 0 _ (Nat.le_refl _) hcb) w.heap.size 1 _ (Nat.le_refl _) hcb) w.heap.size 2 _ (Nat.le_refl _) hcb) w.heap.size 3 _ (Nat.le_refl _) hcb), ?_⟩
 exact (ErrS.set (ErrS.set (ErrS.set (ErrS.set (HER.out.lower (by omega)) w.heap.size 0 _ (by omega)) w.heap.size 1 _ (by omega)) w.heap.size 2 _ (by omega)) w.heap.size 3 _ (by omega))
theorem part_rev (e : Nat → Addr) (rb cb : Nat) (s : ByteArray) (k ah k1 k2 pl c pl2 d : Nat) (lg : Int) (w : World) (he : Es w cb e) (h : Rdr w rb cb s k ah lg) (hcd : d < c)
  (hi : ∀ w', Rdr w' rb cb s k ah lg → Es w' cb e → Calls Tryz.prog 103 #[.pointer (some ⟨rb, 0, none⟩)] w' fun e w'' => e = .returned (.tuple #[IV pl false noP c, .nilIface]) ∧ Mv cb s k1 w' w'')
  (hd : ∀ w', Rdr w' rb cb s k1 ah lg → Calls Tryz.prog 104 #[.pointer (some ⟨rb, 0, none⟩)] w' fun e w'' => e = .returned (.bool true) ∧ Mv cb s (k1 + 1) w' w'')
  (hj : ∀ w', Rdr w' rb cb s (k1 + 1) ah lg → Es w' cb e → Calls Tryz.prog 103 #[.pointer (some ⟨rb, 0, none⟩)] w' fun e w'' => e = .returned (.tuple #[IV pl2 false noP d, .nilIface]) ∧ Mv cb s k2 w' w'') :
  Calls Tryz.prog 97 #[.pointer (some ⟨rb, 0, none⟩)] w fun x w' => ∃ v k', x = .returned (.tuple #[SV noP, v]) ∧ Mv cb s k' w w' ∧ ErrS w' (w.heap.size + 1) e lg 7 (pl : Nat) v := by
 have HH := Lib.hid h
 have HE := Lib.hid he
 have HI := Lib.hid hi
 clear h he hi
 have HD := Lib.hid hd
 have HJ := Lib.hid hj
 clear hd hj
 have hcdI : (d : Int) < c := by omega
 go_enter Tryz.func97, Tryz.ntmps97
 go_wp2_with fail
 obtain ⟨W, hW⟩ : ∃ W, W = w.alloc (.cells #[.int .u64 0, .int .u64 0, .int .u64 0, .int .u64 0] 54) := ⟨_, rfl⟩
 rw [← hW]
 have HMW : Hid (Mv cb s k w W) := Lib.hid (by rw [hW]; exact Mv.below HH.out.2.1 ((Below.refl _ _).alloc (Nat.le_refl _) _))
 have HG0 : Hid (W.heap[w.heap.size]? = some (.cells #[.int .u64 0, .int .u64 0, .int .u64 0, .int .u64 0] 54)) := Lib.hid (by rw [hW]; exact alloc_last w _)
 have hsz : w.heap.size < W.heap.size := by rw [hW]; simp
 clear hW
 have hcb := HH.out.lt.2
 have HR0 := Lib.hid (HH.out.mv HMW.out)
 have HM0 := Lib.hid (Mv.refl HR0.out.2.1)
 have HE0 := Lib.hid (HE.out.below HMW.out.1)
 refine (HI.out _ HR0.out HE0.out).mono ?_
 rintro e' w1 ⟨rfl, hm1⟩
 have HM1 := Lib.hid (HM0.out.trans hm1)
 have HR1 := Lib.hid (HR0.out.mv HM1.out)
 obtain ⟨a10, a11, a12, a1z⟩ := HR1.out.facts
 have hsz1 : w.heap.size < w1.heap.size := Nat.lt_of_lt_of_le hsz HM1.out.1.size
 clear hm1
 unfold IV
 go_wp2_with fail
 obtain ⟨w2, hV⟩ : ∃ V, V = w1.alloc (.cells #[.int .i64 pl, .bool false, .int .u64 (sw noP 0 : Nat), .int .u64 (sw noP 1 : Nat), .int .u64 (sw noP 2 : Nat), .int .u64 (sw noP 3 : Nat), .int .u8 c] 193) := ⟨_, rfl⟩
 rw [← hV]
 have HA2 := Lib.hid (show Mv cb s _ w1 w2 by rw [hV]; exact Mv.below HR1.out.2.1 ((Below.refl _ _).alloc (Nat.le_refl _) _))
 have HM2 := Lib.hid (HM1.out.trans HA2.out)
 have HBA : Hid (w2.heap[w1.heap.size]? = some (.cells #[.int .i64 pl, .bool false, .int .u64 (sw noP 0 : Nat), .int .u64 (sw noP 1 : Nat), .int .u64 (sw noP 2 : Nat), .int .u64 (sw noP 3 : Nat), .int .u8 c] 193)) := Lib.hid (by rw [hV]; exact alloc_last _ _)
 have hzA : w1.heap.size < w2.heap.size := by rw [hV]; simp
 have hWA : cb < w1.heap.size := HR1.out.lt.2
 clear hV
 have HR2 := Lib.hid (HR0.out.mv HM2.out)
 have hsz2 : w.heap.size < w2.heap.size := Nat.lt_of_lt_of_le hsz HM2.out.1.size
 obtain ⟨a20, a21, a22, a2z⟩ := HR2.out.facts
 have HN2 := Lib.hid (Mv.refl HR2.out.2.1)
 refine (HD.out _ HR2.out).mono ?_
 rintro e' w3 ⟨rfl, hm3⟩
 have HM3 := Lib.hid (HM2.out.trans hm3)
 have HR3 := Lib.hid (HR0.out.mv HM3.out)
 have HN3 := Lib.hid (HN2.out.trans hm3)
 obtain ⟨a30, a31, a32, a3z⟩ := HR3.out.facts
 have hsz3 : w.heap.size < w3.heap.size := Nat.lt_of_lt_of_le hsz HM3.out.1.size
 clear hm3
 have hbA := (HN3.out.2.2 w1.heap.size hzA (by omega)).trans HBA.out
 obtain ⟨⟨p0, p1, p2, p3, p4, p5, p6⟩, ⟨pg0, pg1, pg2, pg3, pg4, pg5, pg6⟩, pz⟩ := cells7 hbA
 clear hbA
 go_wp2_with fail
 refine (HJ.out _ HR3.out (HE0.out.below HM3.out.1)).mono ?_
 rintro e' w4 ⟨rfl, hm4⟩
 have HM4 := Lib.hid (HM3.out.trans hm4)
 have HR4 := Lib.hid (HR0.out.mv HM4.out)
 have HN4 := Lib.hid (HN3.out.trans hm4)
 obtain ⟨a40, a41, a42, a4z⟩ := HR4.out.facts
 have hsz4 : w.heap.size < w4.heap.size := Nat.lt_of_lt_of_le hsz HM4.out.1.size
 clear hm4
 have hbA := (HN4.out.2.2 w1.heap.size hzA (by omega)).trans HBA.out
 obtain ⟨⟨q0, q1, q2, q3, q4, q5, q6⟩, ⟨qg0, qg1, qg2, qg3, qg4, qg5, qg6⟩, qz⟩ := cells7 hbA
 clear hbA
 unfold IV
 go_wp2_with fail
 obtain ⟨w5, hV⟩ : ∃ V, V = w4.alloc (.cells #[.int .i64 pl2, .bool false, .int .u64 (sw noP 0 : Nat), .int .u64 (sw noP 1 : Nat), .int .u64 (sw noP 2 : Nat), .int .u64 (sw noP 3 : Nat), .int .u8 d] 193) := ⟨_, rfl⟩
 rw [← hV]
 have HA5 := Lib.hid (show Mv cb s _ w4 w5 by rw [hV]; exact Mv.below HR4.out.2.1 ((Below.refl _ _).alloc (Nat.le_refl _) _))
 have HM5 := Lib.hid (HM4.out.trans HA5.out)
 have HBB : Hid (w5.heap[w4.heap.size]? = some (.cells #[.int .i64 pl2, .bool false, .int .u64 (sw noP 0 : Nat), .int .u64 (sw noP 1 : Nat), .int .u64 (sw noP 2 : Nat), .int .u64 (sw noP 3 : Nat), .int .u8 d] 193)) := Lib.hid (by rw [hV]; exact alloc_last _ _)
 have hzB : w4.heap.size < w5.heap.size := by rw [hV]; simp
 have hWB : cb < w4.heap.size := HR4.out.lt.2
 clear hV
 have HR5 := Lib.hid (HR0.out.mv HM5.out)
 have hsz5 : w.heap.size < w5.heap.size := Nat.lt_of_lt_of_le hsz HM5.out.1.size
 obtain ⟨a50, a51, a52, a5z⟩ := HR5.out.facts
 have HN5 := Lib.hid (HN4.out.trans HA5.out)
 have HO5 := Lib.hid (Mv.refl HR5.out.2.1)
 have hbA := (HN5.out.2.2 w1.heap.size hzA (by omega)).trans HBA.out
 obtain ⟨⟨r0, r1, r2, r3, r4, r5, r6⟩, ⟨rg0, rg1, rg2, rg3, rg4, rg5, rg6⟩, rz⟩ := cells7 hbA
 clear hbA
 have hbB := (HO5.out.2.2 w4.heap.size hzB (by omega)).trans HBB.out
 obtain ⟨⟨t0, t1, t2, t3, t4, t5, t6⟩, ⟨tg0, tg1, tg2, tg3, tg4, tg5, tg6⟩, tz⟩ := cells7 hbB
 clear hbB
 go_wp2_with fail
 refine (refuse_any rb lg e cb 7 pl (by decide) _ (HE0.out.below HM5.out.1) a52).mono ?_
 rintro x w6 ⟨v, rfl, her, hb⟩
 have HM6 := Lib.hid (HM5.out.trans (Mv.below HR5.out.2.1 hb))
 have HER := Lib.hid her
 have hsz6 : w.heap.size < w6.heap.size := Nat.lt_of_lt_of_le hsz HM6.out.1.size
 clear her hb
 have hg := (HM6.out.2.2 w.heap.size hsz (by omega)).trans HG0.out
 obtain ⟨⟨c0, c1, c2, c3⟩, ⟨g0, g1, g2, g3⟩, hgz⟩ := cells4 hg
 clear hg
 go_wp2
 refine bodyPost_ret (by simp [results, Tryz.results97, go_sem, c0, c1, c2, c3]; rfl) rfl ⟨_, _, by unfold SV; rw [item_no.1, item_no.2.1, item_no.2.2.1, item_no.2.2.2], (Mv.setOther (Mv.setOther (Mv.setOther (Mv.setOther (HMW.out.trans HM6.out) w.heap.size 0 _ (Nat.le_refl _) hcb) w.heap.size 1 _ (Nat.le_refl _) hcb) w.heap.size 2 _ (Nat.le_refl _) hcb) w.heap.size 3 _ (Nat.le_refl _) hcb), ?_⟩
 exact (ErrS.set (ErrS.set (ErrS.set (ErrS.set (HER.out.lower (by omega)) w.heap.size 0 _ (by omega)) w.heap.size 1 _ (by omega)) w.heap.size 2 _ (by omega)) w.heap.size 3 _ (by omega))
theorem party_one (e : Nat → Addr) (rb cb : Nat) (s : ByteArray) (k ah k1 pl c : Nat) (lg : Int) (w : World) (he : Es w cb e) (h : Rdr w rb cb s k ah lg) (hc : c < 256)
  (hi : ∀ w', Rdr w' rb cb s k ah lg → Es w' cb e → Calls Tryz.prog 103 #[.pointer (some ⟨rb, 0, none⟩)] w' fun e w'' => e = .returned (.tuple #[IV pl false noP c, .nilIface]) ∧ Mv cb s k1 w' w'')
  (hd : ∀ w', Rdr w' rb cb s k1 ah lg → Calls Tryz.prog 104 #[.pointer (some ⟨rb, 0, none⟩)] w' fun e w'' => e = .returned (.bool false) ∧ Mv cb s k1 w' w'') :
  Calls Tryz.prog 97 #[.pointer (some ⟨rb, 0, none⟩)] w fun e w' => e = .returned (.tuple #[SV (rng c c), .nilIface]) ∧ Mv cb s k1 w w' := by
 have HH := Lib.hid h
 have HE := Lib.hid he
 have HI := Lib.hid hi
 clear h he hi
 have HD := Lib.hid hd
 clear hd
 have HX : ∀ w, Hid (Calls Tryz.prog 105 #[.int .u8 c, .int .u8 c] w fun e w' => e = .returned (SV (rng c c)) ∧ Below w.heap.size w w') := fun w => Lib.hid (range_any c c hc hc w)
 go_enter Tryz.func97, Tryz.ntmps97
 go_wp2_with fail
 obtain ⟨W, hW⟩ : ∃ W, W = w.alloc (.cells #[.int .u64 0, .int .u64 0, .int .u64 0, .int .u64 0] 54) := ⟨_, rfl⟩
 rw [← hW]
 have HMW : Hid (Mv cb s k w W) := Lib.hid (by rw [hW]; exact Mv.below HH.out.2.1 ((Below.refl _ _).alloc (Nat.le_refl _) _))
 have HG0 : Hid (W.heap[w.heap.size]? = some (.cells #[.int .u64 0, .int .u64 0, .int .u64 0, .int .u64 0] 54)) := Lib.hid (by rw [hW]; exact alloc_last w _)
 have hsz : w.heap.size < W.heap.size := by rw [hW]; simp
 clear hW
 have hcb := HH.out.lt.2
 have HR0 := Lib.hid (HH.out.mv HMW.out)
 have HM0 := Lib.hid (Mv.refl HR0.out.2.1)
 have HE0 := Lib.hid (HE.out.below HMW.out.1)
 refine (HI.out _ HR0.out HE0.out).mono ?_
 rintro e' w1 ⟨rfl, hm1⟩
 have HM1 := Lib.hid (HM0.out.trans hm1)
 have HR1 := Lib.hid (HR0.out.mv HM1.out)
 obtain ⟨a10, a11, a12, a1z⟩ := HR1.out.facts
 have hsz1 : w.heap.size < w1.heap.size := Nat.lt_of_lt_of_le hsz HM1.out.1.size
 clear hm1
 unfold IV
 go_wp2_with fail
 obtain ⟨w2, hV⟩ : ∃ V, V = w1.alloc (.cells #[.int .i64 pl, .bool false, .int .u64 (sw noP 0 : Nat), .int .u64 (sw noP 1 : Nat), .int .u64 (sw noP 2 : Nat), .int .u64 (sw noP 3 : Nat), .int .u8 c] 193) := ⟨_, rfl⟩
 rw [← hV]
 have HA2 := Lib.hid (show Mv cb s _ w1 w2 by rw [hV]; exact Mv.below HR1.out.2.1 ((Below.refl _ _).alloc (Nat.le_refl _) _))
 have HM2 := Lib.hid (HM1.out.trans HA2.out)
 have HBA : Hid (w2.heap[w1.heap.size]? = some (.cells #[.int .i64 pl, .bool false, .int .u64 (sw noP 0 : Nat), .int .u64 (sw noP 1 : Nat), .int .u64 (sw noP 2 : Nat), .int .u64 (sw noP 3 : Nat), .int .u8 c] 193)) := Lib.hid (by rw [hV]; exact alloc_last _ _)
 have hzA : w1.heap.size < w2.heap.size := by rw [hV]; simp
 have hWA : cb < w1.heap.size := HR1.out.lt.2
 clear hV
 have HR2 := Lib.hid (HR0.out.mv HM2.out)
 have hsz2 : w.heap.size < w2.heap.size := Nat.lt_of_lt_of_le hsz HM2.out.1.size
 obtain ⟨a20, a21, a22, a2z⟩ := HR2.out.facts
 have HN2 := Lib.hid (Mv.refl HR2.out.2.1)
 refine (HD.out _ HR2.out).mono ?_
 rintro e' w3 ⟨rfl, hm3⟩
 have HM3 := Lib.hid (HM2.out.trans hm3)
 have HR3 := Lib.hid (HR0.out.mv HM3.out)
 have HN3 := Lib.hid (HN2.out.trans hm3)
 obtain ⟨a30, a31, a32, a3z⟩ := HR3.out.facts
 have hsz3 : w.heap.size < w3.heap.size := Nat.lt_of_lt_of_le hsz HM3.out.1.size
 clear hm3
 have hbA := (HN3.out.2.2 w1.heap.size hzA (by omega)).trans HBA.out
 obtain ⟨⟨p0, p1, p2, p3, p4, p5, p6⟩, ⟨pg0, pg1, pg2, pg3, pg4, pg5, pg6⟩, pz⟩ := cells7 hbA
 clear hbA
 go_wp2_with fail
 refine (HX _).out.mono ?_
 rintro e' w4 ⟨rfl, hb4⟩
 have HM4 := Lib.hid (HM3.out.trans (Mv.below HR3.out.2.1 hb4))
 have hsz4 : w.heap.size < w4.heap.size := Nat.lt_of_lt_of_le hsz HM4.out.1.size
 clear hb4
 have hg := (HM4.out.2.2 w.heap.size hsz (by omega)).trans HG0.out
 obtain ⟨⟨c0, c1, c2, c3⟩, ⟨g0, g1, g2, g3⟩, hgz⟩ := cells4 hg
 clear hg
 unfold SV
 go_wp2
 exact bodyPost_ret (by simp [results, Tryz.results97, go_sem, c0, c1, c2, c3]; rfl) rfl ⟨rfl, (Mv.setOther (Mv.setOther (Mv.setOther (Mv.setOther (HMW.out.trans HM4.out) w.heap.size 0 _ (Nat.le_refl _) hcb) w.heap.size 1 _ (Nat.le_refl _) hcb) w.heap.size 2 _ (Nat.le_refl _) hcb) w.heap.size 3 _ (Nat.le_refl _) hcb)⟩
theorem party_range (e : Nat → Addr) (rb cb : Nat) (s : ByteArray) (k ah k1 k2 pl c pl2 d : Nat) (lg : Int) (w : World) (he : Es w cb e) (h : Rdr w rb cb s k ah lg) (hc : c < 256) (hd256 : d < 256) (hcd : c ≤ d)
  (hi : ∀ w', Rdr w' rb cb s k ah lg → Es w' cb e → Calls Tryz.prog 103 #[.pointer (some ⟨rb, 0, none⟩)] w' fun e w'' => e = .returned (.tuple #[IV pl false noP c, .nilIface]) ∧ Mv cb s k1 w' w'')
  (hd : ∀ w', Rdr w' rb cb s k1 ah lg → Calls Tryz.prog 104 #[.pointer (some ⟨rb, 0, none⟩)] w' fun e w'' => e = .returned (.bool true) ∧ Mv cb s (k1 + 1) w' w'')
  (hj : ∀ w', Rdr w' rb cb s (k1 + 1) ah lg → Es w' cb e → Calls Tryz.prog 103 #[.pointer (some ⟨rb, 0, none⟩)] w' fun e w'' => e = .returned (.tuple #[IV pl2 false noP d, .nilIface]) ∧ Mv cb s k2 w' w'') :
  Calls Tryz.prog 97 #[.pointer (some ⟨rb, 0, none⟩)] w fun e w' => e = .returned (.tuple #[SV (rng c d), .nilIface]) ∧ Mv cb s k2 w w' := by
 have HH := Lib.hid h
 have HE := Lib.hid he
 have HI := Lib.hid hi
 clear h he hi
 have HD := Lib.hid hd
 have HJ := Lib.hid hj
 clear hd hj
 have HX : ∀ w, Hid (Calls Tryz.prog 105 #[.int .u8 c, .int .u8 d] w fun e w' => e = .returned (SV (rng c d)) ∧ Below w.heap.size w w') := fun w => Lib.hid (range_any c d hc hd256 w)
 have hcdI : (c : Int) ≤ d := by omega
 go_enter Tryz.func97, Tryz.ntmps97
 go_wp2_with fail
 obtain ⟨W, hW⟩ : ∃ W, W = w.alloc (.cells #[.int .u64 0, .int .u64 0, .int .u64 0, .int .u64 0] 54) := ⟨_, rfl⟩
 rw [← hW]
 have HMW : Hid (Mv cb s k w W) := Lib.hid (by rw [hW]; exact Mv.below HH.out.2.1 ((Below.refl _ _).alloc (Nat.le_refl _) _))
 have HG0 : Hid (W.heap[w.heap.size]? = some (.cells #[.int .u64 0, .int .u64 0, .int .u64 0, .int .u64 0] 54)) := Lib.hid (by rw [hW]; exact alloc_last w _)
 have hsz : w.heap.size < W.heap.size := by rw [hW]; simp
 clear hW
 have hcb := HH.out.lt.2
 have HR0 := Lib.hid (HH.out.mv HMW.out)
 have HM0 := Lib.hid (Mv.refl HR0.out.2.1)
 have HE0 := Lib.hid (HE.out.below HMW.out.1)
 refine (HI.out _ HR0.out HE0.out).mono ?_
 rintro e' w1 ⟨rfl, hm1⟩
 have HM1 := Lib.hid (HM0.out.trans hm1)
 have HR1 := Lib.hid (HR0.out.mv HM1.out)
 obtain ⟨a10, a11, a12, a1z⟩ := HR1.out.facts
 have hsz1 : w.heap.size < w1.heap.size := Nat.lt_of_lt_of_le hsz HM1.out.1.size
 clear hm1
 unfold IV
 go_wp2_with fail
 obtain ⟨w2, hV⟩ : ∃ V, V = w1.alloc (.cells #[.int .i64 pl, .bool false, .int .u64 (sw noP 0 : Nat), .int .u64 (sw noP 1 : Nat), .int .u64 (sw noP 2 : Nat), .int .u64 (sw noP 3 : Nat), .int .u8 c] 193) := ⟨_, rfl⟩
 rw [← hV]
 have HA2 := Lib.hid (show Mv cb s _ w1 w2 by rw [hV]; exact Mv.below HR1.out.2.1 ((Below.refl _ _).alloc (Nat.le_refl _) _))
 have HM2 := Lib.hid (HM1.out.trans HA2.out)
 have HBA : Hid (w2.heap[w1.heap.size]? = some (.cells #[.int .i64 pl, .bool false, .int .u64 (sw noP 0 : Nat), .int .u64 (sw noP 1 : Nat), .int .u64 (sw noP 2 : Nat), .int .u64 (sw noP 3 : Nat), .int .u8 c] 193)) := Lib.hid (by rw [hV]; exact alloc_last _ _)
 have hzA : w1.heap.size < w2.heap.size := by rw [hV]; simp
 have hWA : cb < w1.heap.size := HR1.out.lt.2
 clear hV
 have HR2 := Lib.hid (HR0.out.mv HM2.out)
 have hsz2 : w.heap.size < w2.heap.size := Nat.lt_of_lt_of_le hsz HM2.out.1.size
 obtain ⟨a20, a21, a22, a2z⟩ := HR2.out.facts
 have HN2 := Lib.hid (Mv.refl HR2.out.2.1)
 refine (HD.out _ HR2.out).mono ?_
 rintro e' w3 ⟨rfl, hm3⟩
 have HM3 := Lib.hid (HM2.out.trans hm3)
 have HR3 := Lib.hid (HR0.out.mv HM3.out)
 have HN3 := Lib.hid (HN2.out.trans hm3)
 obtain ⟨a30, a31, a32, a3z⟩ := HR3.out.facts
 have hsz3 : w.heap.size < w3.heap.size := Nat.lt_of_lt_of_le hsz HM3.out.1.size
 clear hm3
 have hbA := (HN3.out.2.2 w1.heap.size hzA (by omega)).trans HBA.out
 obtain ⟨⟨p0, p1, p2, p3, p4, p5, p6⟩, ⟨pg0, pg1, pg2, pg3, pg4, pg5, pg6⟩, pz⟩ := cells7 hbA
 clear hbA
 go_wp2_with fail
 refine (HJ.out _ HR3.out (HE0.out.below HM3.out.1)).mono ?_
 rintro e' w4 ⟨rfl, hm4⟩
 have HM4 := Lib.hid (HM3.out.trans hm4)
 have HR4 := Lib.hid (HR0.out.mv HM4.out)
 have HN4 := Lib.hid (HN3.out.trans hm4)
 obtain ⟨a40, a41, a42, a4z⟩ := HR4.out.facts
 have hsz4 : w.heap.size < w4.heap.size := Nat.lt_of_lt_of_le hsz HM4.out.1.size
 clear hm4
 have hbA := (HN4.out.2.2 w1.heap.size hzA (by omega)).trans HBA.out
 obtain ⟨⟨q0, q1, q2, q3, q4, q5, q6⟩, ⟨qg0, qg1, qg2, qg3, qg4, qg5, qg6⟩, qz⟩ := cells7 hbA
 clear hbA
 unfold IV
 go_wp2_with fail
 obtain ⟨w5, hV⟩ : ∃ V, V = w4.alloc (.cells #[.int .i64 pl2, .bool false, .int .u64 (sw noP 0 : Nat), .int .u64 (sw noP 1 : Nat), .int .u64 (sw noP 2 : Nat), .int .u64 (sw noP 3 : Nat), .int .u8 d] 193) := ⟨_, rfl⟩
 rw [← hV]
 have HA5 := Lib.hid (show Mv cb s _ w4 w5 by rw [hV]; exact Mv.below HR4.out.2.1 ((Below.refl _ _).alloc (Nat.le_refl _) _))
 have HM5 := Lib.hid (HM4.out.trans HA5.out)
 have HBB : Hid (w5.heap[w4.heap.size]? = some (.cells #[.int .i64 pl2, .bool false, .int .u64 (sw noP 0 : Nat), .int .u64 (sw noP 1 : Nat), .int .u64 (sw noP 2 : Nat), .int .u64 (sw noP 3 : Nat), .int .u8 d] 193)) := Lib.hid (by rw [hV]; exact alloc_last _ _)
 have hzB : w4.heap.size < w5.heap.size := by rw [hV]; simp
 have hWB : cb < w4.heap.size := HR4.out.lt.2
 clear hV
 have HR5 := Lib.hid (HR0.out.mv HM5.out)
 have hsz5 : w.heap.size < w5.heap.size := Nat.lt_of_lt_of_le hsz HM5.out.1.size
 obtain ⟨a50, a51, a52, a5z⟩ := HR5.out.facts
 have HN5 := Lib.hid (HN4.out.trans HA5.out)
 have HO5 := Lib.hid (Mv.refl HR5.out.2.1)
 have hbA := (HN5.out.2.2 w1.heap.size hzA (by omega)).trans HBA.out
 obtain ⟨⟨r0, r1, r2, r3, r4, r5, r6⟩, ⟨rg0, rg1, rg2, rg3, rg4, rg5, rg6⟩, rz⟩ := cells7 hbA
 clear hbA
 have hbB := (HO5.out.2.2 w4.heap.size hzB (by omega)).trans HBB.out
 obtain ⟨⟨t0, t1, t2, t3, t4, t5, t6⟩, ⟨tg0, tg1, tg2, tg3, tg4, tg5, tg6⟩, tz⟩ := cells7 hbB
 clear hbB
 go_wp2_with fail
 refine (HX _).out.mono ?_
 rintro e' w6 ⟨rfl, hb6⟩
 have HM6 := Lib.hid (HM5.out.trans (Mv.below HR5.out.2.1 hb6))
 have hsz6 : w.heap.size < w6.heap.size := Nat.lt_of_lt_of_le hsz HM6.out.1.size
 clear hb6
 have hg := (HM6.out.2.2 w.heap.size hsz (by omega)).trans HG0.out
 obtain ⟨⟨c0, c1, c2, c3⟩, ⟨g0, g1, g2, g3⟩, hgz⟩ := cells4 hg
 clear hg
 unfold SV
 go_wp2
 exact bodyPost_ret (by simp [results, Tryz.results97, go_sem, c0, c1, c2, c3]; rfl) rfl ⟨rfl, (Mv.setOther (Mv.setOther (Mv.setOther (Mv.setOther (HMW.out.trans HM6.out) w.heap.size 0 _ (Nat.le_refl _) hcb) w.heap.size 1 _ (Nat.le_refl _) hcb) w.heap.size 2 _ (Nat.le_refl _) hcb) w.heap.size 3 _ (Nat.le_refl _) hcb)⟩
theorem party_cls (e : Nat → Addr) (rb cb : Nat) (s : ByteArray) (k ah k1 pl : Nat) (lg : Int) (w : World) (he : Es w cb e) (h : Rdr w rb cb s k ah lg) (p : Nat → Bool)
  (hi : ∀ w', Rdr w' rb cb s k ah lg → Es w' cb e → Calls Tryz.prog 103 #[.pointer (some ⟨rb, 0, none⟩)] w' fun e w'' => e = .returned (.tuple #[IV pl true p 0, .nilIface]) ∧ Mv cb s k1 w' w'') :
  Calls Tryz.prog 97 #[.pointer (some ⟨rb, 0, none⟩)] w fun e w' => e = .returned (.tuple #[SV p, .nilIface]) ∧ Mv cb s k1 w w' := by
 have HH := Lib.hid h
 have HE := Lib.hid he
 have HI := Lib.hid hi
 clear h he hi
 go_enter Tryz.func97, Tryz.ntmps97
 go_wp2_with fail
 obtain ⟨W, hW⟩ : ∃ W, W = w.alloc (.cells #[.int .u64 0, .int .u64 0, .int .u64 0, .int .u64 0] 54) := ⟨_, rfl⟩
 rw [← hW]
 have HMW : Hid (Mv cb s k w W) := Lib.hid (by rw [hW]; exact Mv.below HH.out.2.1 ((Below.refl _ _).alloc (Nat.le_refl _) _))
 have HG0 : Hid (W.heap[w.heap.size]? = some (.cells #[.int .u64 0, .int .u64 0, .int .u64 0, .int .u64 0] 54)) := Lib.hid (by rw [hW]; exact alloc_last w _)
 have hsz : w.heap.size < W.heap.size := by rw [hW]; simp
 clear hW
 have hcb := HH.out.lt.2
 have HR0 := Lib.hid (HH.out.mv HMW.out)
 have HM0 := Lib.hid (Mv.refl HR0.out.2.1)
 have HE0 := Lib.hid (HE.out.below HMW.out.1)
 refine (HI.out _ HR0.out HE0.out).mono ?_
 rintro e' w1 ⟨rfl, hm1⟩
 have HM1 := Lib.hid (HM0.out.trans hm1)
 have HR1 := Lib.hid (HR0.out.mv HM1.out)
 obtain ⟨a10, a11, a12, a1z⟩ := HR1.out.facts
 have hsz1 : w.heap.size < w1.heap.size := Nat.lt_of_lt_of_le hsz HM1.out.1.size
 clear hm1
 unfold IV
 have hg := (HM1.out.2.2 w.heap.size hsz (by omega)).trans HG0.out
 obtain ⟨⟨c0, c1, c2, c3⟩, ⟨g0, g1, g2, g3⟩, hgz⟩ := cells4 hg
 clear hg
 go_wp2
 exact bodyPost_ret (by simp [results, Tryz.results97, go_sem, c0, c1, c2, c3, hgz]; rfl) rfl ⟨rfl, (Mv.alo (Mv.setOther (Mv.setOther (Mv.setOther (Mv.setOther (HMW.out.trans HM1.out) w.heap.size 0 _ (Nat.le_refl _) hcb) w.heap.size 1 _ (Nat.le_refl _) hcb) w.heap.size 2 _ (Nat.le_refl _) hcb) w.heap.size 3 _ (Nat.le_refl _) hcb) _)⟩
inductive PR where
 | bad (code pos : Nat)
 | ok (p : Nat → Bool) (next : Nat)
def partR (cf : ByteArray → (Nat → Bool) × Bool) (s : ByteArray) (glob : Bool) (k : Nat) : PR :=
 match itemR cf s glob k with
 | .bad pos => .bad 8 pos
 | .cls p nx => .ok p nx
 | .byt c nx =>
  if atB s nx = 45 ∧ ¬ atB s (nx + 1) = 93 then
   match itemR cf s glob (nx + 1) with
   | .bad pos => .bad 8 pos
   | .cls _ _ => .bad 8 (nx + 1)
   | .byt d nx2 => if d < c then .bad 7 k else .ok (rng c.toNat d.toNat) nx2
  else .ok (rng c.toNat c.toNat) nx
def PartPost (cf : ByteArray → (Nat → Bool) × Bool) (e : Nat → Addr) (cb : Nat) (s : ByteArray) (k ah : Nat) (lg : Int) (w : World) (x : Ending) (w' : World) : Prop :=
 match partR cf s (decide (lg = 2)) k with
 | .ok p nx => x = .returned (.tuple #[SV p, .nilIface]) ∧ Mv cb s nx w w'
 | .bad c pos => ∃ v k', x = .returned (.tuple #[SV noP, v]) ∧ Mv cb s k' w w' ∧ ErrS w' (w.heap.size + 1) e lg c (ah + pos : Nat) v
theorem atB_byte (s : ByteArray) (k : Nat) : 0 ≤ atB s k ∧ atB s k ≤ 255 := bys_byt s k
theorem itemR_byte {cf : ByteArray → (Nat → Bool) × Bool} {s : ByteArray} {g : Bool} {k : Nat} {c : Int} {nx : Nat} (h : itemR cf s g k = .byt c nx) : (0 ≤ c ∧ c ≤ 255) ∧ nx ≤ s.size ∧ k < nx := by
 unfold itemR at h
 split at h
 ·split at h
  ·cases h
  ·split at h <;> cases h
 ·split at h
  ·cases h
  ·split at h
   ·split at h
    ·cases h; exact ⟨atB_byte s _, by omega, by omega⟩
    ·cases h
   ·split at h
    ·cases h; exact ⟨atB_byte s _, by omega, by omega⟩
    ·cases h
theorem part_any (cf : ByteArray → (Nat → Bool) × Bool) (hcf : ClassOk cf) (e : Nat → Addr) (rb cb : Nat) (s : ByteArray) (k ah : Nat) (lg : Int) (hb47 : s.size ≤ 140737488351232) (w : World) (he : Es w cb e) (h : Rdr w rb cb s k ah lg) :
  Calls Tryz.prog 97 #[.pointer (some ⟨rb, 0, none⟩)] w (PartPost cf e cb s k ah lg w) := by
 have HIT : ∀ j w', Rdr w' rb cb s j ah lg → Es w' cb e → Calls Tryz.prog 103 #[.pointer (some ⟨rb, 0, none⟩)] w' (ItemPost cf e cb s j ah lg w') := fun j w' h' e' => item_any cf hcf e rb cb s j ah lg hb47 w' e' h'
 unfold PartPost partR
 cases h1 : itemR cf s (decide (lg = 2)) k with
 | bad pos =>
  simp only
  exact part_bad1 e rb cb s k ah (ah + pos) lg w he h (fun w' h' e' => by have := HIT k w' h' e'; unfold ItemPost at this; rw [h1] at this; exact this)
 | cls p nx =>
  simp only
  exact party_cls e rb cb s k ah nx (ah + k) lg w he h p (fun w' h' e' => by have := HIT k w' h' e'; unfold ItemPost at this; rw [h1] at this; exact this)
 | byt c nx =>
  obtain ⟨⟨hc0, hc1⟩, hnx, _⟩ := itemR_byte h1
  obtain ⟨cn, rfl⟩ := Int.eq_ofNat_of_zero_le hc0
  have hI : ∀ w', Rdr w' rb cb s k ah lg → Es w' cb e → Calls Tryz.prog 103 #[.pointer (some ⟨rb, 0, none⟩)] w' fun e w'' => e = .returned (.tuple #[IV (ah + k) false noP cn, .nilIface]) ∧ Mv cb s nx w' w'' := fun w' h' e' => by have := HIT k w' h' e'; unfold ItemPost at this; rw [h1] at this; exact this
  simp only [Int.toNat_natCast]
  by_cases hd : atB s nx = 45 ∧ ¬ atB s (nx + 1) = 93
  ·rw [if_pos hd]
   have hD := fun w' (h' : Rdr w' rb cb s nx ah lg) => dash_yes rb cb s nx ah lg w' h' hd.1 hd.2
   cases h2 : itemR cf s (decide (lg = 2)) (nx + 1) with
   | bad pos =>
    simp only
    exact part_bad2 e rb cb s k ah nx (ah + k) cn (ah + pos) lg w he h hI hD (fun w' h' e' => by have := HIT (nx + 1) w' h' e'; unfold ItemPost at this; rw [h2] at this; exact this)
   | cls p nx2 =>
    simp only
    exact part_dcls e rb cb s k ah nx nx2 (ah + k) cn (ah + (nx + 1)) lg w he h p hI hD (fun w' h' e' => by have := HIT (nx + 1) w' h' e'; unfold ItemPost at this; rw [h2] at this; exact this)
   | byt d nx2 =>
    obtain ⟨⟨hd0, hd1⟩, _, _⟩ := itemR_byte h2
    obtain ⟨dn, rfl⟩ := Int.eq_ofNat_of_zero_le hd0
    have hJ : ∀ w', Rdr w' rb cb s (nx + 1) ah lg → Es w' cb e → Calls Tryz.prog 103 #[.pointer (some ⟨rb, 0, none⟩)] w' fun e w'' => e = .returned (.tuple #[IV (ah + (nx + 1)) false noP dn, .nilIface]) ∧ Mv cb s nx2 w' w'' := fun w' h' e' => by have := HIT (nx + 1) w' h' e'; unfold ItemPost at this; rw [h2] at this; exact this
    simp only [Int.toNat_natCast]
    by_cases hlt : (dn : Int) < cn
    ·rw [if_pos hlt]
     exact part_rev e rb cb s k ah nx nx2 (ah + k) cn (ah + (nx + 1)) dn lg w he h (by omega) hI hD hJ
    ·rw [if_neg hlt]
     exact party_range e rb cb s k ah nx nx2 (ah + k) cn (ah + (nx + 1)) dn lg w he h (by omega) (by omega) (by omega) hI hD hJ
  ·rw [if_neg hd]
   refine party_one e rb cb s k ah nx (ah + k) cn lg w he h (by omega) hI fun w' h' => ?_
   by_cases h45 : atB s nx = 45
   ·exact dash_end rb cb s nx ah lg w' h' h45 (Decidable.byContradiction fun h93 => hd ⟨h45, h93⟩)
   ·exact dash_no rb cb s nx ah lg w' h' h45
inductive BR where
 | bad (code pos : Nat)
 | ok (p : Nat → Bool) (next : Nat)
def brkL (cf : ByteArray → (Nat → Bool) × Bool) (s : ByteArray) (glob : Bool) : Nat → Nat → Bool → (Nat → Bool) → BR
 | 0, _, _, _ => .bad 0 0
 | n + 1, k, first, p =>
  if first = false ∧ atB s k = 93 then .ok p (k + 1) else
   match partR cf s glob k with
   | .bad c pos => .bad c pos
   | .ok q nx => brkL cf s glob n nx false (orP p q)
def brkT (t : Bool) : BR → BR
 | .bad c pos => .bad c pos
 | .ok p nx => .ok (if t then notP p else p) nx
def brkR (cf : ByteArray → (Nat → Bool) × Bool) (s : ByteArray) (glob : Bool) (k : Nat) : BR :=
 if atB s k = 94 ∨ (glob = true ∧ atB s k = 33) then brkT true (brkL cf s glob (s.size + 1 - (k + 1)) (k + 1) true noP)
 else brkT false (brkL cf s glob (s.size + 1 - k) k true noP)
theorem itemR_next {cf : ByteArray → (Nat → Bool) × Bool} {s : ByteArray} {g : Bool} {k : Nat} {p : Nat → Bool} {nx : Nat} (h : itemR cf s g k = .cls p nx) : nx ≤ s.size ∧ k < nx := by
 unfold itemR at h
 split at h
 ·rename_i hc
  split at h
  ·cases h
  ·rename_i y hy
   split at h
   ·cases h
    have key : ∀ n j, cnE s n j = some y → j ≤ y ∧ y + 2 ≤ s.size := by
     intro n
     induction n with
     | zero => intro j h; cases h
     | succ n ih =>
      intro j h
      unfold cnE at h
      split at h
      ·rename_i hh
       have e := Option.some.inj h
       have := atB_in (s := s) (k := j + 1) (by rw [hh.2]; decide)
       omega
      ·have := ih _ h; omega
    have := key _ _ hy
    omega
   ·cases h
 ·split at h
  ·cases h
  ·split at h
   ·split at h <;> cases h
   ·split at h <;> cases h
theorem partR_next {cf : ByteArray → (Nat → Bool) × Bool} {s : ByteArray} {g : Bool} {k : Nat} {p : Nat → Bool} {nx : Nat} (h : partR cf s g k = .ok p nx) : nx ≤ s.size ∧ k < nx := by
 unfold partR at h
 cases h1 : itemR cf s g k with
 | bad pos => rw [h1] at h; cases h
 | cls q n1 => rw [h1] at h; cases h; exact itemR_next h1
 | byt c n1 =>
  rw [h1] at h
  have b1 := (itemR_byte h1).2
  simp only at h
  split at h
  ·cases h2 : itemR cf s g (n1 + 1) with
   | bad pos => rw [h2] at h; cases h
   | cls q n2 => rw [h2] at h; cases h
   | byt d n2 =>
    rw [h2] at h
    have b2 := (itemR_byte h2).2
    simp only at h
    split at h
    ·cases h
    ·cases h; omega
  ·cases h; exact b1
theorem brkL_fuel (cf : ByteArray → (Nat → Bool) × Bool) (s : ByteArray) (g : Bool) : ∀ (n m k : Nat) (f : Bool) (p : Nat → Bool), s.size + 1 - k ≤ n → s.size + 1 - k ≤ m → 1 ≤ n → 1 ≤ m → brkL cf s g n k f p = brkL cf s g m k f p := by
 intro n
 induction n with
 | zero => intro m k f p _ _ h; omega
 | succ n ih =>
  intro m k f p h1 h2 _ h4
  obtain ⟨m, rfl⟩ : ∃ j, m = j + 1 := ⟨m - 1, by omega⟩
  unfold brkL
  split
  ·rfl
  ·cases hp : partR cf s g k with
   | bad c pos => rfl
   | ok q nx =>
    have := partR_next hp
    simp only
    exact ih m nx false _ (by omega) (by omega) (by omega) (by omega)
theorem brkL_step {cf : ByteArray → (Nat → Bool) × Bool} {s : ByteArray} {g : Bool} {k : Nat} {f : Bool} {p q : Nat → Bool} {nx : Nat} (hk : k ≤ s.size) (hf : ¬ (f = false ∧ atB s k = 93)) (h : partR cf s g k = .ok q nx) :
  brkL cf s g (s.size + 1 - k) k f p = brkL cf s g (s.size + 1 - nx) nx false (orP p q) := by
 have := partR_next h
 obtain ⟨n, hn⟩ : ∃ n, s.size + 1 - k = n + 1 := ⟨s.size - k, by omega⟩
 rw [hn]
 conv => lhs; unfold brkL
 rw [if_neg hf, h]
 exact brkL_fuel cf s g _ _ _ _ _ (by omega) (by omega) (by omega) (by omega)
theorem brkL_bad {cf : ByteArray → (Nat → Bool) × Bool} {s : ByteArray} {g : Bool} {k : Nat} {f : Bool} {p : Nat → Bool} {c pos : Nat} (hk : k ≤ s.size) (hf : ¬ (f = false ∧ atB s k = 93)) (h : partR cf s g k = .bad c pos) :
  brkL cf s g (s.size + 1 - k) k f p = .bad c pos := by
 obtain ⟨n, hn⟩ : ∃ n, s.size + 1 - k = n + 1 := ⟨s.size - k, by omega⟩
 rw [hn]
 unfold brkL
 rw [if_neg hf, h]
theorem brkL_ok {cf : ByteArray → (Nat → Bool) × Bool} {s : ByteArray} {g : Bool} {k : Nat} {p : Nat → Bool} (hk : k ≤ s.size) (h : atB s k = 93) :
  brkL cf s g (s.size + 1 - k) k false p = .ok p (k + 1) := by
 obtain ⟨n, hn⟩ : ∃ n, s.size + 1 - k = n + 1 := ⟨s.size - k, by omega⟩
 rw [hn]
 unfold brkL
 rw [if_pos ⟨rfl, h⟩]
def BrkPost (r : BR) (e : Nat → Addr) (cb : Nat) (s : ByteArray) (ah : Nat) (lg : Int) (w : World) (x : Ending) (w' : World) : Prop :=
 match r with
 | .ok p nx => x = .returned (.tuple #[SV p, .nilIface]) ∧ Mv cb s nx w w'
 | .bad c pos => ∃ v k', x = .returned (.tuple #[SV noP, v]) ∧ Mv cb s k' w w' ∧ ErrS w' (w.heap.size + 1) e lg c (ah + pos : Nat) v
theorem blk_put {V : World} {b : Nat} {p : Nat → Bool} (q : Nat → Bool) {t : TypeId} (h : V.heap[b]? = some (.cells #[.int .u64 (sw p 0 : Nat), .int .u64 (sw p 1 : Nat), .int .u64 (sw p 2 : Nat), .int .u64 (sw p 3 : Nat)] t)) :
  ((((V.setCell ⟨b, 0, none⟩ (.int .u64 (sw q 0 : Nat))).setCell ⟨b, 1, none⟩ (.int .u64 (sw q 1 : Nat))).setCell ⟨b, 2, none⟩ (.int .u64 (sw q 2 : Nat))).setCell ⟨b, 3, none⟩ (.int .u64 (sw q 3 : Nat))).heap[b]? = some (.cells #[.int .u64 (sw q 0 : Nat), .int .u64 (sw q 1 : Nat), .int .u64 (sw q 2 : Nat), .int .u64 (sw q 3 : Nat)] t) := by
 have st : ∀ (X : World) (cs : Array Value) (i : Nat) (v : Value), X.heap[b]? = some (.cells cs t) → (X.setCell ⟨b, i, none⟩ v).heap[b]? = some (.cells (cs.setIfInBounds i v) t) := fun X cs i v hx => by
  show (X.heap.modify b _)[b]? = _
  rw [Array.getElem?_modify, if_pos rfl, hx]
  rfl
 have := st _ _ 3 (.int .u64 (sw q 3 : Nat)) (st _ _ 2 (.int .u64 (sw q 2 : Nat)) (st _ _ 1 (.int .u64 (sw q 1 : Nat)) (st _ _ 0 (.int .u64 (sw q 0 : Nat)) h)))
 simpa using this
set_option maxHeartbeats 16000000 in
theorem brk_hat (cf : ByteArray → (Nat → Bool) × Bool) (hcf : ClassOk cf) (e : Nat → Addr) (rb cb : Nat) (s : ByteArray) (k ah : Nat) (lg : Int) (hb47 : s.size ≤ 140737488351232) (w : World) (he : Es w cb e) (h : Rdr w rb cb s k ah lg) (h1 : atB s k = 94) (hk0 : (k + 1) ≤ s.size) :
  Calls Tryz.prog 89 #[.pointer (some ⟨rb, 0, none⟩)] w (BrkPost (brkT true (brkL cf s (decide (lg = 2)) (s.size + 1 - (k + 1)) (k + 1) true noP)) e cb s ah lg w) := by
 have HH := Lib.hid h
 have HE := Lib.hid he
 have HT1 : Hid (∀ w', Cur w' cb s k → Calls Tryz.prog 77 #[.pointer (some ⟨cb, 0, none⟩), .string ⟨#[94]⟩] w' fun e w'' => e = .returned (.bool true) ∧ Mv cb s (k + 1) w' w'') := Lib.hid fun w' h' => take1_yes cb k s 94 w' h' (by decide) h1
 have HPA : Hid (∀ (j : Nat) (w' : World), Rdr w' rb cb s j ah lg → Es w' cb e → Calls Tryz.prog 97 #[.pointer (some ⟨rb, 0, none⟩)] w' (PartPost cf e cb s j ah lg w')) := Lib.hid fun j w' h' e' => part_any cf hcf e rb cb s j ah lg hb47 w' e' h'
 clear h he h1
 obtain ⟨r0, r1, r2, rz⟩ := HH.out.facts
 go_enter Tryz.func89, Tryz.ntmps89
 go_wp2_with fail
 obtain ⟨W, hW⟩ : ∃ W, W = w.alloc (.cells #[.int .u64 0, .int .u64 0, .int .u64 0, .int .u64 0] 54) := ⟨_, rfl⟩
 rw [← hW]
 have HMW : Hid (Mv cb s k w W) := Lib.hid (by rw [hW]; exact Mv.below HH.out.2.1 ((Below.refl _ _).alloc (Nat.le_refl _) _))
 have HG0 : Hid (W.heap[w.heap.size]? = some (.cells #[.int .u64 0, .int .u64 0, .int .u64 0, .int .u64 0] 54)) := Lib.hid (by rw [hW]; exact alloc_last w _)
 have hsz : w.heap.size < W.heap.size := by rw [hW]; simp
 clear hW r0 r1 r2 rz
 have hcb := HH.out.lt.2
 have HR0 := Lib.hid (HH.out.mv HMW.out)
 have HM0 := Lib.hid (Mv.refl HR0.out.2.1)
 have HE0 := Lib.hid (HE.out.below HMW.out.1)
 refine (HT1.out _ HR0.out.2.1).mono ?_
 rintro e' w1 ⟨rfl, hm1⟩
 have HM1 := Lib.hid (HM0.out.trans hm1)
 have HR1 := Lib.hid (HR0.out.mv HM1.out)
 obtain ⟨a10, a11, a12, a1z⟩ := HR1.out.facts
 clear hm1
 have HX : Hid (W.heap.size ≤ w1.heap.size) := Lib.hid HM1.out.1.size
 have hcb1 : cb < w1.heap.size := HR1.out.lt.2
 have hg1 : w.heap.size < w1.heap.size := Nat.lt_of_lt_of_le hsz HX.out
 have HG1 := Lib.hid ((HM1.out.2.2 w.heap.size hsz (by omega)).trans HG0.out)
 have HMQ := Lib.hid (HMW.out.trans HM1.out)
 have HEQ := Lib.hid (HE0.out.below HM1.out.1)
 generalize hR : brkL cf s (decide (lg = 2)) (s.size + 1 - (k + 1)) (k + 1) true noP = R
 have HRR := Lib.hid hR
 clear hR
 go_wp2_with fail
 go_loopw [6] (fun f wr => ∃ (j : Nat) (p : Nat → Bool) (fb : Bool), f = .bool fb ∧ Mv cb s j w1 wr ∧ wr.heap[w1.heap.size]? = some (.cells #[.int .u64 (sw p 0 : Nat), .int .u64 (sw p 1 : Nat), .int .u64 (sw p 2 : Nat), .int .u64 (sw p 3 : Nat)] 54) ∧ brkL cf s (decide (lg = 2)) (s.size + 1 - j) j fb p = R) (fun _ wr => match wr.cell? ⟨cb, 1, none⟩ with | some (.int _ n) => s.size + 1 - n.toNat | _ => 0)
 case atStart =>
  refine ⟨(k + 1), noP, true, rfl, Mv.below HR1.out.2.1 ((Below.refl _ _).alloc (Nat.le_refl _) _), ?_, HRR.out⟩
  rw [item_no.1, item_no.2.1, item_no.2.2.1, item_no.2.2.2]
  exact alloc_last _ _
 case round =>
  obtain ⟨j, p, fb, rfl, hmv, hs, hbr⟩ := hrel
  have HM := Lib.hid hmv
  have HS := Lib.hid hs
  have HBR := Lib.hid hbr
  have HRj := Lib.hid (HR1.out.mv hmv)
  have HEj := Lib.hid (HEQ.out.below hmv.1)
  have hjs := hmv.2.1.2.1
  have HC1 := Lib.hid hmv.cur.facts.2.1
  obtain ⟨q0, q1, q2, qz⟩ := HRj.out.facts
  obtain ⟨⟨s0, s1, s2, s3⟩, ⟨f0, f1, f2, f3⟩, fz⟩ := cells4 hs
  clear hmv hs hbr
  cases fb with
  | true =>
   have HPj := Lib.hid (HPA.out j wr HRj.out HEj.out)
   cases hpr : partR cf s (decide (lg = 2)) j with
   | bad c pos =>
    have HB : Hid (R = .bad c pos) := Lib.hid (HBR.out.symm.trans (brkL_bad hjs (by simp) hpr))
    unfold PartPost at HPj
    rw [hpr] at HPj
    simp only at HPj
    clear hpr
    go_wp2_with fail
    refine HPj.out.mono ?_
    rintro e' wb ⟨v, k', rfl, hmb, her⟩
    have HMb := Lib.hid (HM.out.trans hmb)
    have HER := Lib.hid her
    obtain ⟨kk, rfl⟩ := her.iface
    have hzb : w.heap.size < wb.heap.size := Nat.lt_of_lt_of_le hg1 HMb.out.1.size
    have hzw : w.heap.size ≤ wr.heap.size := Nat.le_trans (Nat.le_of_lt hg1) HM.out.1.size
    have hg := (HMb.out.2.2 w.heap.size hg1 (by omega)).trans HG1.out
    obtain ⟨⟨c0, c1, c2, c3⟩, ⟨g0, g1, g2, g3⟩, hgz⟩ := cells4 hg
    clear hmb her hg
    unfold SV
    go_wp2
    refine bodyPost_ret (by simp [results, Tryz.results89, go_sem, c0, c1, c2, c3, hgz]; rfl) rfl ?_
    rw [HRR.out, HB.out]
    refine ⟨_, _, by unfold SV; rw [item_no.1, item_no.2.1, item_no.2.2.1, item_no.2.2.2], Mv.alo (Mv.setOther (Mv.setOther (Mv.setOther (Mv.setOther (HMQ.out.trans HMb.out) w.heap.size 0 _ (Nat.le_refl _) hcb) w.heap.size 1 _ (Nat.le_refl _) hcb) w.heap.size 2 _ (Nat.le_refl _) hcb) w.heap.size 3 _ (Nat.le_refl _) hcb) _, ?_⟩
    exact ErrS.below (ErrS.set (ErrS.set (ErrS.set (ErrS.set (HER.out.lower (by omega)) w.heap.size 0 _ (by omega)) w.heap.size 1 _ (by omega)) w.heap.size 2 _ (by omega)) w.heap.size 3 _ (by omega)) ((Below.refl _ _).alloc (Nat.le_refl _) _)
   | ok q nx =>
    have HB : Hid (brkL cf s (decide (lg = 2)) (s.size + 1 - nx) nx false (orP p q) = R) := Lib.hid ((brkL_step hjs (by simp) hpr).symm.trans HBR.out)
    have hnx := partR_next hpr
    unfold PartPost at HPj
    rw [hpr] at HPj
    simp only at HPj
    clear hpr
    go_wp2_with fail
    refine HPj.out.mono ?_
    rintro e' wb ⟨rfl, hmb⟩
    have HMb := Lib.hid (HM.out.trans hmb)
    have hsb := (hmb.2.2 w1.heap.size fz (by omega)).trans HS.out
    clear hmb
    obtain ⟨⟨t0, t1, t2, t3⟩, ⟨u0, u1, u2, u3⟩, uz⟩ := cells4 hsb
    have HSb := Lib.hid hsb
    clear hsb
    unfold SV
    go_wp2_with fail
    have HU := Lib.hid (unionL (wb.alloc (.cells #[.int .u64 (sw q 0 : Nat), .int .u64 (sw q 1 : Nat), .int .u64 (sw q 2 : Nat), .int .u64 (sw q 3 : Nat)] 54)) p q 54)
    simp only [World.size_alloc] at HU
    refine HU.out.mono ?_
    rintro e' wc ⟨rfl, hbc⟩
    have HMc := Lib.hid (HMb.out.trans (Mv.below HMb.out.2.1 (((Below.refl _ _).alloc (Nat.le_refl _) _).trans (hbc.mono (by simp)))))
    have hsc : wc.heap[w1.heap.size]? = some (.cells #[.int .u64 (sw p 0 : Nat), .int .u64 (sw p 1 : Nat), .int .u64 (sw p 2 : Nat), .int .u64 (sw p 3 : Nat)] 54) := (hbc.block _ (by omega)).trans ((Below.heap_alloc _ _ _ uz).trans HSb.out)
    clear hbc
    obtain ⟨⟨v0, v1, v2, v3⟩, ⟨x0, x1, x2, x3⟩, xz⟩ := cells4 hsc
    have HSc := Lib.hid hsc
    clear hsc
    unfold SV
    go_wp2_with fail
    skip
    refine ⟨⟨nx, orP p q, false, rfl, (Mv.setOther (Mv.setOther (Mv.setOther (Mv.setOther HMc.out w1.heap.size 0 _ (Nat.le_refl _) hcb1) w1.heap.size 1 _ (Nat.le_refl _) hcb1) w1.heap.size 2 _ (Nat.le_refl _) hcb1) w1.heap.size 3 _ (Nat.le_refl _) hcb1), blk_put (orP p q) HSc.out, HB.out⟩, ?_⟩
    rw [((Mv.setOther (Mv.setOther (Mv.setOther (Mv.setOther HMc.out w1.heap.size 0 _ (Nat.le_refl _) hcb1) w1.heap.size 1 _ (Nat.le_refl _) hcb1) w1.heap.size 2 _ (Nat.le_refl _) hcb1) w1.heap.size 3 _ (Nat.le_refl _) hcb1)).cur.facts.2.1, HC1.out]
    simp only
    omega
  | false =>
   by_cases h93 : atB s j = 93
   ·have HT9 := Lib.hid (take1_yes cb j s 93 wr HRj.out.2.1 (by decide) h93)
    have HB : Hid (R = .ok p (j + 1)) := Lib.hid (HBR.out.symm.trans (brkL_ok hjs h93))
    go_wp2_with fail
    refine HT9.out.mono ?_
    rintro e' wk ⟨rfl, hmk⟩
    have HMk := Lib.hid (HM.out.trans hmk)
    have hsk := (hmk.2.2 w1.heap.size fz (by omega)).trans HS.out
    have HSk := Lib.hid hsk
    obtain ⟨⟨t0, t1, t2, t3⟩, ⟨u0, u1, u2, u3⟩, uz⟩ := cells4 hsk
    clear hmk hsk
    have HNO : ∀ w, Hid (Calls Tryz.prog 74 #[.agg #[.int .u64 (sw p 0 : Nat), .int .u64 (sw p 1 : Nat), .int .u64 (sw p 2 : Nat), .int .u64 (sw p 3 : Nat)]] w fun e w' => e = .returned (SV (notP p)) ∧ Below w.heap.size w w') := fun w => Lib.hid (not_any p w)
    go_wp2_with fail
    refine (HNO _).out.mono ?_
    rintro e' wl ⟨rfl, hbl⟩
    have HMl := Lib.hid (HMk.out.trans (Mv.below HMk.out.2.1 hbl))
    have hsl := (hbl.block _ uz).trans HSk.out
    obtain ⟨⟨v0, v1, v2, v3⟩, ⟨x0, x1, x2, x3⟩, xz⟩ := cells4 hsl
    have hg := (HMl.out.2.2 w.heap.size hg1 (by omega)).trans HG1.out
    obtain ⟨⟨c0, c1, c2, c3⟩, ⟨g0, g1, g2, g3⟩, hgz⟩ := cells4 hg
    clear hbl hsl hg
    unfold SV
    go_wp2
    refine bodyPost_ret (by simp [results, Tryz.results89, go_sem, c0, c1, c2, c3]; rfl) rfl ?_
    rw [HRR.out, HB.out]
    exact ⟨rfl, (Mv.setOther (Mv.setOther (Mv.setOther (Mv.setOther (HMQ.out.trans (Mv.setOther (Mv.setOther (Mv.setOther (Mv.setOther HMl.out w1.heap.size 0 _ (Nat.le_refl _) hcb1) w1.heap.size 1 _ (Nat.le_refl _) hcb1) w1.heap.size 2 _ (Nat.le_refl _) hcb1) w1.heap.size 3 _ (Nat.le_refl _) hcb1)) w.heap.size 0 _ (Nat.le_refl _) hcb) w.heap.size 1 _ (Nat.le_refl _) hcb) w.heap.size 2 _ (Nat.le_refl _) hcb) w.heap.size 3 _ (Nat.le_refl _) hcb)⟩
   ·have HT9 := Lib.hid (take1_no cb j s 93 wr HRj.out.2.1 (by decide) h93)
    go_wp2_with fail
    refine HT9.out.mono ?_
    rintro e' wk ⟨rfl, hmk⟩
    have HMk := Lib.hid (HM.out.trans hmk)
    have HRk := Lib.hid (HRj.out.mv hmk)
    have HEk := Lib.hid (HEj.out.below hmk.1)
    have HSk := Lib.hid ((hmk.2.2 w1.heap.size fz (by omega)).trans HS.out)
    have fzk : w1.heap.size < wk.heap.size := Nat.lt_of_lt_of_le fz hmk.1.size
    clear hmk
    have HPj := Lib.hid (HPA.out j wk HRk.out HEk.out)
    cases hpr : partR cf s (decide (lg = 2)) j with
    | bad c pos =>
     have HB : Hid (R = .bad c pos) := Lib.hid (HBR.out.symm.trans (brkL_bad hjs (fun h => h93 h.2) hpr))
     unfold PartPost at HPj
     rw [hpr] at HPj
     simp only at HPj
     clear hpr
     go_wp2_with fail
     refine HPj.out.mono ?_
     rintro e' wb ⟨v, k', rfl, hmb, her⟩
     have HMb := Lib.hid (HMk.out.trans hmb)
     have HER := Lib.hid her
     obtain ⟨kk, rfl⟩ := her.iface
     have hzb : w.heap.size < wb.heap.size := Nat.lt_of_lt_of_le hg1 HMb.out.1.size
     have hzw : w.heap.size ≤ wk.heap.size := Nat.le_trans (Nat.le_of_lt hg1) HMk.out.1.size
     have hg := (HMb.out.2.2 w.heap.size hg1 (by omega)).trans HG1.out
     obtain ⟨⟨c0, c1, c2, c3⟩, ⟨g0, g1, g2, g3⟩, hgz⟩ := cells4 hg
     clear hmb her hg
     unfold SV
     go_wp2
     refine bodyPost_ret (by simp [results, Tryz.results89, go_sem, c0, c1, c2, c3, hgz]; rfl) rfl ?_
     rw [HRR.out, HB.out]
     refine ⟨_, _, by unfold SV; rw [item_no.1, item_no.2.1, item_no.2.2.1, item_no.2.2.2], Mv.alo (Mv.setOther (Mv.setOther (Mv.setOther (Mv.setOther (HMQ.out.trans HMb.out) w.heap.size 0 _ (Nat.le_refl _) hcb) w.heap.size 1 _ (Nat.le_refl _) hcb) w.heap.size 2 _ (Nat.le_refl _) hcb) w.heap.size 3 _ (Nat.le_refl _) hcb) _, ?_⟩
     exact ErrS.below (ErrS.set (ErrS.set (ErrS.set (ErrS.set (HER.out.lower (by omega)) w.heap.size 0 _ (by omega)) w.heap.size 1 _ (by omega)) w.heap.size 2 _ (by omega)) w.heap.size 3 _ (by omega)) ((Below.refl _ _).alloc (Nat.le_refl _) _)
    | ok q nx =>
     have HB : Hid (brkL cf s (decide (lg = 2)) (s.size + 1 - nx) nx false (orP p q) = R) := Lib.hid ((brkL_step hjs (fun h => h93 h.2) hpr).symm.trans HBR.out)
     have hnx := partR_next hpr
     unfold PartPost at HPj
     rw [hpr] at HPj
     simp only at HPj
     clear hpr
     go_wp2_with fail
     refine HPj.out.mono ?_
     rintro e' wb ⟨rfl, hmb⟩
     have HMb := Lib.hid (HMk.out.trans hmb)
     have hsb := (hmb.2.2 w1.heap.size fzk (by omega)).trans HSk.out
     clear hmb
     obtain ⟨⟨t0, t1, t2, t3⟩, ⟨u0, u1, u2, u3⟩, uz⟩ := cells4 hsb
     have HSb := Lib.hid hsb
     clear hsb
     unfold SV
     go_wp2_with fail
     have HU := Lib.hid (unionL (wb.alloc (.cells #[.int .u64 (sw q 0 : Nat), .int .u64 (sw q 1 : Nat), .int .u64 (sw q 2 : Nat), .int .u64 (sw q 3 : Nat)] 54)) p q 54)
     simp only [World.size_alloc] at HU
     refine HU.out.mono ?_
     rintro e' wc ⟨rfl, hbc⟩
     have HMc := Lib.hid (HMb.out.trans (Mv.below HMb.out.2.1 (((Below.refl _ _).alloc (Nat.le_refl _) _).trans (hbc.mono (by simp)))))
     have hsc : wc.heap[w1.heap.size]? = some (.cells #[.int .u64 (sw p 0 : Nat), .int .u64 (sw p 1 : Nat), .int .u64 (sw p 2 : Nat), .int .u64 (sw p 3 : Nat)] 54) := (hbc.block _ (by omega)).trans ((Below.heap_alloc _ _ _ uz).trans HSb.out)
     clear hbc
     obtain ⟨⟨v0, v1, v2, v3⟩, ⟨x0, x1, x2, x3⟩, xz⟩ := cells4 hsc
     have HSc := Lib.hid hsc
     clear hsc
     unfold SV
     go_wp2_with fail
     skip
     refine ⟨⟨nx, orP p q, false, rfl, (Mv.setOther (Mv.setOther (Mv.setOther (Mv.setOther HMc.out w1.heap.size 0 _ (Nat.le_refl _) hcb1) w1.heap.size 1 _ (Nat.le_refl _) hcb1) w1.heap.size 2 _ (Nat.le_refl _) hcb1) w1.heap.size 3 _ (Nat.le_refl _) hcb1), blk_put (orP p q) HSc.out, HB.out⟩, ?_⟩
     rw [((Mv.setOther (Mv.setOther (Mv.setOther (Mv.setOther HMc.out w1.heap.size 0 _ (Nat.le_refl _) hcb1) w1.heap.size 1 _ (Nat.le_refl _) hcb1) w1.heap.size 2 _ (Nat.le_refl _) hcb1) w1.heap.size 3 _ (Nat.le_refl _) hcb1)).cur.facts.2.1, HC1.out]
     simp only
     omega
set_option maxHeartbeats 16000000 in
theorem brk_plain (cf : ByteArray → (Nat → Bool) × Bool) (hcf : ClassOk cf) (e : Nat → Addr) (rb cb : Nat) (s : ByteArray) (k ah : Nat) (lg : Int) (hb47 : s.size ≤ 140737488351232) (w : World) (he : Es w cb e) (h : Rdr w rb cb s k ah lg) (hlg : ¬ lg = 2) (h1 : ¬ atB s k = 94) (hk0 : k ≤ s.size) :
  Calls Tryz.prog 89 #[.pointer (some ⟨rb, 0, none⟩)] w (BrkPost (brkT false (brkL cf s (decide (lg = 2)) (s.size + 1 - k) k true noP)) e cb s ah lg w) := by
 have HH := Lib.hid h
 have HE := Lib.hid he
 have HT1 : Hid (∀ w', Cur w' cb s k → Calls Tryz.prog 77 #[.pointer (some ⟨cb, 0, none⟩), .string ⟨#[94]⟩] w' fun e w'' => e = .returned (.bool false) ∧ Mv cb s k w' w'') := Lib.hid fun w' h' => take1_no cb k s 94 w' h' (by decide) h1
 have HPA : Hid (∀ (j : Nat) (w' : World), Rdr w' rb cb s j ah lg → Es w' cb e → Calls Tryz.prog 97 #[.pointer (some ⟨rb, 0, none⟩)] w' (PartPost cf e cb s j ah lg w')) := Lib.hid fun j w' h' e' => part_any cf hcf e rb cb s j ah lg hb47 w' e' h'
 clear h he h1
 obtain ⟨r0, r1, r2, rz⟩ := HH.out.facts
 go_enter Tryz.func89, Tryz.ntmps89
 go_wp2_with fail
 obtain ⟨W, hW⟩ : ∃ W, W = w.alloc (.cells #[.int .u64 0, .int .u64 0, .int .u64 0, .int .u64 0] 54) := ⟨_, rfl⟩
 rw [← hW]
 have HMW : Hid (Mv cb s k w W) := Lib.hid (by rw [hW]; exact Mv.below HH.out.2.1 ((Below.refl _ _).alloc (Nat.le_refl _) _))
 have HG0 : Hid (W.heap[w.heap.size]? = some (.cells #[.int .u64 0, .int .u64 0, .int .u64 0, .int .u64 0] 54)) := Lib.hid (by rw [hW]; exact alloc_last w _)
 have hsz : w.heap.size < W.heap.size := by rw [hW]; simp
 clear hW r0 r1 r2 rz
 have hcb := HH.out.lt.2
 have HR0 := Lib.hid (HH.out.mv HMW.out)
 have HM0 := Lib.hid (Mv.refl HR0.out.2.1)
 have HE0 := Lib.hid (HE.out.below HMW.out.1)
 refine (HT1.out _ HR0.out.2.1).mono ?_
 rintro e' w1 ⟨rfl, hm1⟩
 have HM1 := Lib.hid (HM0.out.trans hm1)
 have HR1 := Lib.hid (HR0.out.mv HM1.out)
 obtain ⟨a10, a11, a12, a1z⟩ := HR1.out.facts
 clear hm1
 have HX : Hid (W.heap.size ≤ w1.heap.size) := Lib.hid HM1.out.1.size
 have hcb1 : cb < w1.heap.size := HR1.out.lt.2
 have hg1 : w.heap.size < w1.heap.size := Nat.lt_of_lt_of_le hsz HX.out
 have HG1 := Lib.hid ((HM1.out.2.2 w.heap.size hsz (by omega)).trans HG0.out)
 have HMQ := Lib.hid (HMW.out.trans HM1.out)
 have HEQ := Lib.hid (HE0.out.below HM1.out.1)
 generalize hR : brkL cf s (decide (lg = 2)) (s.size + 1 - k) k true noP = R
 have HRR := Lib.hid hR
 clear hR
 go_wp2_with fail
 go_loopw [6] (fun f wr => ∃ (j : Nat) (p : Nat → Bool) (fb : Bool), f = .bool fb ∧ Mv cb s j w1 wr ∧ wr.heap[w1.heap.size]? = some (.cells #[.int .u64 (sw p 0 : Nat), .int .u64 (sw p 1 : Nat), .int .u64 (sw p 2 : Nat), .int .u64 (sw p 3 : Nat)] 54) ∧ brkL cf s (decide (lg = 2)) (s.size + 1 - j) j fb p = R) (fun _ wr => match wr.cell? ⟨cb, 1, none⟩ with | some (.int _ n) => s.size + 1 - n.toNat | _ => 0)
 case atStart =>
  refine ⟨k, noP, true, rfl, Mv.below HR1.out.2.1 ((Below.refl _ _).alloc (Nat.le_refl _) _), ?_, HRR.out⟩
  rw [item_no.1, item_no.2.1, item_no.2.2.1, item_no.2.2.2]
  exact alloc_last _ _
 case round =>
  obtain ⟨j, p, fb, rfl, hmv, hs, hbr⟩ := hrel
  have HM := Lib.hid hmv
  have HS := Lib.hid hs
  have HBR := Lib.hid hbr
  have HRj := Lib.hid (HR1.out.mv hmv)
  have HEj := Lib.hid (HEQ.out.below hmv.1)
  have hjs := hmv.2.1.2.1
  have HC1 := Lib.hid hmv.cur.facts.2.1
  obtain ⟨q0, q1, q2, qz⟩ := HRj.out.facts
  obtain ⟨⟨s0, s1, s2, s3⟩, ⟨f0, f1, f2, f3⟩, fz⟩ := cells4 hs
  clear hmv hs hbr
  cases fb with
  | true =>
   have HPj := Lib.hid (HPA.out j wr HRj.out HEj.out)
   cases hpr : partR cf s (decide (lg = 2)) j with
   | bad c pos =>
    have HB : Hid (R = .bad c pos) := Lib.hid (HBR.out.symm.trans (brkL_bad hjs (by simp) hpr))
    unfold PartPost at HPj
    rw [hpr] at HPj
    simp only at HPj
    clear hpr
    go_wp2_with fail
    refine HPj.out.mono ?_
    rintro e' wb ⟨v, k', rfl, hmb, her⟩
    have HMb := Lib.hid (HM.out.trans hmb)
    have HER := Lib.hid her
    obtain ⟨kk, rfl⟩ := her.iface
    have hzb : w.heap.size < wb.heap.size := Nat.lt_of_lt_of_le hg1 HMb.out.1.size
    have hzw : w.heap.size ≤ wr.heap.size := Nat.le_trans (Nat.le_of_lt hg1) HM.out.1.size
    have hg := (HMb.out.2.2 w.heap.size hg1 (by omega)).trans HG1.out
    obtain ⟨⟨c0, c1, c2, c3⟩, ⟨g0, g1, g2, g3⟩, hgz⟩ := cells4 hg
    clear hmb her hg
    unfold SV
    go_wp2
    refine bodyPost_ret (by simp [results, Tryz.results89, go_sem, c0, c1, c2, c3, hgz]; rfl) rfl ?_
    rw [HRR.out, HB.out]
    refine ⟨_, _, by unfold SV; rw [item_no.1, item_no.2.1, item_no.2.2.1, item_no.2.2.2], Mv.alo (Mv.setOther (Mv.setOther (Mv.setOther (Mv.setOther (HMQ.out.trans HMb.out) w.heap.size 0 _ (Nat.le_refl _) hcb) w.heap.size 1 _ (Nat.le_refl _) hcb) w.heap.size 2 _ (Nat.le_refl _) hcb) w.heap.size 3 _ (Nat.le_refl _) hcb) _, ?_⟩
    exact ErrS.below (ErrS.set (ErrS.set (ErrS.set (ErrS.set (HER.out.lower (by omega)) w.heap.size 0 _ (by omega)) w.heap.size 1 _ (by omega)) w.heap.size 2 _ (by omega)) w.heap.size 3 _ (by omega)) ((Below.refl _ _).alloc (Nat.le_refl _) _)
   | ok q nx =>
    have HB : Hid (brkL cf s (decide (lg = 2)) (s.size + 1 - nx) nx false (orP p q) = R) := Lib.hid ((brkL_step hjs (by simp) hpr).symm.trans HBR.out)
    have hnx := partR_next hpr
    unfold PartPost at HPj
    rw [hpr] at HPj
    simp only at HPj
    clear hpr
    go_wp2_with fail
    refine HPj.out.mono ?_
    rintro e' wb ⟨rfl, hmb⟩
    have HMb := Lib.hid (HM.out.trans hmb)
    have hsb := (hmb.2.2 w1.heap.size fz (by omega)).trans HS.out
    clear hmb
    obtain ⟨⟨t0, t1, t2, t3⟩, ⟨u0, u1, u2, u3⟩, uz⟩ := cells4 hsb
    have HSb := Lib.hid hsb
    clear hsb
    unfold SV
    go_wp2_with fail
    have HU := Lib.hid (unionL (wb.alloc (.cells #[.int .u64 (sw q 0 : Nat), .int .u64 (sw q 1 : Nat), .int .u64 (sw q 2 : Nat), .int .u64 (sw q 3 : Nat)] 54)) p q 54)
    simp only [World.size_alloc] at HU
    refine HU.out.mono ?_
    rintro e' wc ⟨rfl, hbc⟩
    have HMc := Lib.hid (HMb.out.trans (Mv.below HMb.out.2.1 (((Below.refl _ _).alloc (Nat.le_refl _) _).trans (hbc.mono (by simp)))))
    have hsc : wc.heap[w1.heap.size]? = some (.cells #[.int .u64 (sw p 0 : Nat), .int .u64 (sw p 1 : Nat), .int .u64 (sw p 2 : Nat), .int .u64 (sw p 3 : Nat)] 54) := (hbc.block _ (by omega)).trans ((Below.heap_alloc _ _ _ uz).trans HSb.out)
    clear hbc
    obtain ⟨⟨v0, v1, v2, v3⟩, ⟨x0, x1, x2, x3⟩, xz⟩ := cells4 hsc
    have HSc := Lib.hid hsc
    clear hsc
    unfold SV
    go_wp2_with fail
    skip
    refine ⟨⟨nx, orP p q, false, rfl, (Mv.setOther (Mv.setOther (Mv.setOther (Mv.setOther HMc.out w1.heap.size 0 _ (Nat.le_refl _) hcb1) w1.heap.size 1 _ (Nat.le_refl _) hcb1) w1.heap.size 2 _ (Nat.le_refl _) hcb1) w1.heap.size 3 _ (Nat.le_refl _) hcb1), blk_put (orP p q) HSc.out, HB.out⟩, ?_⟩
    rw [((Mv.setOther (Mv.setOther (Mv.setOther (Mv.setOther HMc.out w1.heap.size 0 _ (Nat.le_refl _) hcb1) w1.heap.size 1 _ (Nat.le_refl _) hcb1) w1.heap.size 2 _ (Nat.le_refl _) hcb1) w1.heap.size 3 _ (Nat.le_refl _) hcb1)).cur.facts.2.1, HC1.out]
    simp only
    omega
  | false =>
   by_cases h93 : atB s j = 93
   ·have HT9 := Lib.hid (take1_yes cb j s 93 wr HRj.out.2.1 (by decide) h93)
    have HB : Hid (R = .ok p (j + 1)) := Lib.hid (HBR.out.symm.trans (brkL_ok hjs h93))
    go_wp2_with fail
    refine HT9.out.mono ?_
    rintro e' wk ⟨rfl, hmk⟩
    have HMk := Lib.hid (HM.out.trans hmk)
    have hsk := (hmk.2.2 w1.heap.size fz (by omega)).trans HS.out
    have HSk := Lib.hid hsk
    obtain ⟨⟨t0, t1, t2, t3⟩, ⟨u0, u1, u2, u3⟩, uz⟩ := cells4 hsk
    clear hmk hsk
    have hg := (HMk.out.2.2 w.heap.size hg1 (by omega)).trans HG1.out
    obtain ⟨⟨c0, c1, c2, c3⟩, ⟨g0, g1, g2, g3⟩, hgz⟩ := cells4 hg
    clear hg
    go_wp2
    refine bodyPost_ret (by simp [results, Tryz.results89, go_sem, c0, c1, c2, c3]; rfl) rfl ?_
    rw [HRR.out, HB.out]
    exact ⟨rfl, (Mv.setOther (Mv.setOther (Mv.setOther (Mv.setOther (HMQ.out.trans HMk.out) w.heap.size 0 _ (Nat.le_refl _) hcb) w.heap.size 1 _ (Nat.le_refl _) hcb) w.heap.size 2 _ (Nat.le_refl _) hcb) w.heap.size 3 _ (Nat.le_refl _) hcb)⟩
   ·have HT9 := Lib.hid (take1_no cb j s 93 wr HRj.out.2.1 (by decide) h93)
    go_wp2_with fail
    refine HT9.out.mono ?_
    rintro e' wk ⟨rfl, hmk⟩
    have HMk := Lib.hid (HM.out.trans hmk)
    have HRk := Lib.hid (HRj.out.mv hmk)
    have HEk := Lib.hid (HEj.out.below hmk.1)
    have HSk := Lib.hid ((hmk.2.2 w1.heap.size fz (by omega)).trans HS.out)
    have fzk : w1.heap.size < wk.heap.size := Nat.lt_of_lt_of_le fz hmk.1.size
    clear hmk
    have HPj := Lib.hid (HPA.out j wk HRk.out HEk.out)
    cases hpr : partR cf s (decide (lg = 2)) j with
    | bad c pos =>
     have HB : Hid (R = .bad c pos) := Lib.hid (HBR.out.symm.trans (brkL_bad hjs (fun h => h93 h.2) hpr))
     unfold PartPost at HPj
     rw [hpr] at HPj
     simp only at HPj
     clear hpr
     go_wp2_with fail
     refine HPj.out.mono ?_
     rintro e' wb ⟨v, k', rfl, hmb, her⟩
     have HMb := Lib.hid (HMk.out.trans hmb)
     have HER := Lib.hid her
     obtain ⟨kk, rfl⟩ := her.iface
     have hzb : w.heap.size < wb.heap.size := Nat.lt_of_lt_of_le hg1 HMb.out.1.size
     have hzw : w.heap.size ≤ wk.heap.size := Nat.le_trans (Nat.le_of_lt hg1) HMk.out.1.size
     have hg := (HMb.out.2.2 w.heap.size hg1 (by omega)).trans HG1.out
     obtain ⟨⟨c0, c1, c2, c3⟩, ⟨g0, g1, g2, g3⟩, hgz⟩ := cells4 hg
     clear hmb her hg
     unfold SV
     go_wp2
     refine bodyPost_ret (by simp [results, Tryz.results89, go_sem, c0, c1, c2, c3, hgz]; rfl) rfl ?_
     rw [HRR.out, HB.out]
     refine ⟨_, _, by unfold SV; rw [item_no.1, item_no.2.1, item_no.2.2.1, item_no.2.2.2], Mv.alo (Mv.setOther (Mv.setOther (Mv.setOther (Mv.setOther (HMQ.out.trans HMb.out) w.heap.size 0 _ (Nat.le_refl _) hcb) w.heap.size 1 _ (Nat.le_refl _) hcb) w.heap.size 2 _ (Nat.le_refl _) hcb) w.heap.size 3 _ (Nat.le_refl _) hcb) _, ?_⟩
     exact ErrS.below (ErrS.set (ErrS.set (ErrS.set (ErrS.set (HER.out.lower (by omega)) w.heap.size 0 _ (by omega)) w.heap.size 1 _ (by omega)) w.heap.size 2 _ (by omega)) w.heap.size 3 _ (by omega)) ((Below.refl _ _).alloc (Nat.le_refl _) _)
    | ok q nx =>
     have HB : Hid (brkL cf s (decide (lg = 2)) (s.size + 1 - nx) nx false (orP p q) = R) := Lib.hid ((brkL_step hjs (fun h => h93 h.2) hpr).symm.trans HBR.out)
     have hnx := partR_next hpr
     unfold PartPost at HPj
     rw [hpr] at HPj
     simp only at HPj
     clear hpr
     go_wp2_with fail
     refine HPj.out.mono ?_
     rintro e' wb ⟨rfl, hmb⟩
     have HMb := Lib.hid (HMk.out.trans hmb)
     have hsb := (hmb.2.2 w1.heap.size fzk (by omega)).trans HSk.out
     clear hmb
     obtain ⟨⟨t0, t1, t2, t3⟩, ⟨u0, u1, u2, u3⟩, uz⟩ := cells4 hsb
     have HSb := Lib.hid hsb
     clear hsb
     unfold SV
     go_wp2_with fail
     have HU := Lib.hid (unionL (wb.alloc (.cells #[.int .u64 (sw q 0 : Nat), .int .u64 (sw q 1 : Nat), .int .u64 (sw q 2 : Nat), .int .u64 (sw q 3 : Nat)] 54)) p q 54)
     simp only [World.size_alloc] at HU
     refine HU.out.mono ?_
     rintro e' wc ⟨rfl, hbc⟩
     have HMc := Lib.hid (HMb.out.trans (Mv.below HMb.out.2.1 (((Below.refl _ _).alloc (Nat.le_refl _) _).trans (hbc.mono (by simp)))))
     have hsc : wc.heap[w1.heap.size]? = some (.cells #[.int .u64 (sw p 0 : Nat), .int .u64 (sw p 1 : Nat), .int .u64 (sw p 2 : Nat), .int .u64 (sw p 3 : Nat)] 54) := (hbc.block _ (by omega)).trans ((Below.heap_alloc _ _ _ uz).trans HSb.out)
     clear hbc
     obtain ⟨⟨v0, v1, v2, v3⟩, ⟨x0, x1, x2, x3⟩, xz⟩ := cells4 hsc
     have HSc := Lib.hid hsc
     clear hsc
     unfold SV
     go_wp2_with fail
     skip
     refine ⟨⟨nx, orP p q, false, rfl, (Mv.setOther (Mv.setOther (Mv.setOther (Mv.setOther HMc.out w1.heap.size 0 _ (Nat.le_refl _) hcb1) w1.heap.size 1 _ (Nat.le_refl _) hcb1) w1.heap.size 2 _ (Nat.le_refl _) hcb1) w1.heap.size 3 _ (Nat.le_refl _) hcb1), blk_put (orP p q) HSc.out, HB.out⟩, ?_⟩
     rw [((Mv.setOther (Mv.setOther (Mv.setOther (Mv.setOther HMc.out w1.heap.size 0 _ (Nat.le_refl _) hcb1) w1.heap.size 1 _ (Nat.le_refl _) hcb1) w1.heap.size 2 _ (Nat.le_refl _) hcb1) w1.heap.size 3 _ (Nat.le_refl _) hcb1)).cur.facts.2.1, HC1.out]
     simp only
     omega
set_option maxHeartbeats 16000000 in
theorem brk_bang (cf : ByteArray → (Nat → Bool) × Bool) (hcf : ClassOk cf) (e : Nat → Addr) (rb cb : Nat) (s : ByteArray) (k ah : Nat) (lg : Int) (hb47 : s.size ≤ 140737488351232) (w : World) (he : Es w cb e) (h : Rdr w rb cb s k ah lg) (hlg : lg = 2) (h1 : ¬ atB s k = 94) (h2 : atB s k = 33) (hk0 : (k + 1) ≤ s.size) :
  Calls Tryz.prog 89 #[.pointer (some ⟨rb, 0, none⟩)] w (BrkPost (brkT true (brkL cf s (decide (lg = 2)) (s.size + 1 - (k + 1)) (k + 1) true noP)) e cb s ah lg w) := by
 have HH := Lib.hid h
 have HE := Lib.hid he
 have HT1 : Hid (∀ w', Cur w' cb s k → Calls Tryz.prog 77 #[.pointer (some ⟨cb, 0, none⟩), .string ⟨#[94]⟩] w' fun e w'' => e = .returned (.bool false) ∧ Mv cb s k w' w'') := Lib.hid fun w' h' => take1_no cb k s 94 w' h' (by decide) h1
 have HT2 : Hid (∀ w', Cur w' cb s k → Calls Tryz.prog 77 #[.pointer (some ⟨cb, 0, none⟩), .string ⟨#[33]⟩] w' fun e w'' => e = .returned (.bool true) ∧ Mv cb s (k + 1) w' w'') := Lib.hid fun w' h' => take1_yes cb k s 33 w' h' (by decide) h2
 have HPA : Hid (∀ (j : Nat) (w' : World), Rdr w' rb cb s j ah lg → Es w' cb e → Calls Tryz.prog 97 #[.pointer (some ⟨rb, 0, none⟩)] w' (PartPost cf e cb s j ah lg w')) := Lib.hid fun j w' h' e' => part_any cf hcf e rb cb s j ah lg hb47 w' e' h'
 clear h he h1 h2
 obtain ⟨r0, r1, r2, rz⟩ := HH.out.facts
 go_enter Tryz.func89, Tryz.ntmps89
 go_wp2_with fail
 obtain ⟨W, hW⟩ : ∃ W, W = w.alloc (.cells #[.int .u64 0, .int .u64 0, .int .u64 0, .int .u64 0] 54) := ⟨_, rfl⟩
 rw [← hW]
 have HMW : Hid (Mv cb s k w W) := Lib.hid (by rw [hW]; exact Mv.below HH.out.2.1 ((Below.refl _ _).alloc (Nat.le_refl _) _))
 have HG0 : Hid (W.heap[w.heap.size]? = some (.cells #[.int .u64 0, .int .u64 0, .int .u64 0, .int .u64 0] 54)) := Lib.hid (by rw [hW]; exact alloc_last w _)
 have hsz : w.heap.size < W.heap.size := by rw [hW]; simp
 clear hW r0 r1 r2 rz
 have hcb := HH.out.lt.2
 have HR0 := Lib.hid (HH.out.mv HMW.out)
 have HM0 := Lib.hid (Mv.refl HR0.out.2.1)
 have HE0 := Lib.hid (HE.out.below HMW.out.1)
 refine (HT1.out _ HR0.out.2.1).mono ?_
 rintro e' w1 ⟨rfl, hm1⟩
 have HM1 := Lib.hid (HM0.out.trans hm1)
 have HR1 := Lib.hid (HR0.out.mv HM1.out)
 obtain ⟨a10, a11, a12, a1z⟩ := HR1.out.facts
 clear hm1
 go_wp2_with fail
 refine (HT2.out _ HR1.out.2.1).mono ?_
 rintro e' w2 ⟨rfl, hm2⟩
 have HM2 := Lib.hid (HM1.out.trans hm2)
 have HR2 := Lib.hid (HR0.out.mv HM2.out)
 obtain ⟨a20, a21, a22, a2z⟩ := HR2.out.facts
 clear hm2
 have HX : Hid (W.heap.size ≤ w2.heap.size) := Lib.hid HM2.out.1.size
 have hcb1 : cb < w2.heap.size := HR2.out.lt.2
 have hg1 : w.heap.size < w2.heap.size := Nat.lt_of_lt_of_le hsz HX.out
 have HG1 := Lib.hid ((HM2.out.2.2 w.heap.size hsz (by omega)).trans HG0.out)
 have HMQ := Lib.hid (HMW.out.trans HM2.out)
 have HEQ := Lib.hid (HE0.out.below HM2.out.1)
 generalize hR : brkL cf s (decide (lg = 2)) (s.size + 1 - (k + 1)) (k + 1) true noP = R
 have HRR := Lib.hid hR
 clear hR
 go_wp2_with fail
 go_loopw [6] (fun f wr => ∃ (j : Nat) (p : Nat → Bool) (fb : Bool), f = .bool fb ∧ Mv cb s j w2 wr ∧ wr.heap[w2.heap.size]? = some (.cells #[.int .u64 (sw p 0 : Nat), .int .u64 (sw p 1 : Nat), .int .u64 (sw p 2 : Nat), .int .u64 (sw p 3 : Nat)] 54) ∧ brkL cf s (decide (lg = 2)) (s.size + 1 - j) j fb p = R) (fun _ wr => match wr.cell? ⟨cb, 1, none⟩ with | some (.int _ n) => s.size + 1 - n.toNat | _ => 0)
 case atStart =>
  refine ⟨(k + 1), noP, true, rfl, Mv.below HR2.out.2.1 ((Below.refl _ _).alloc (Nat.le_refl _) _), ?_, HRR.out⟩
  rw [item_no.1, item_no.2.1, item_no.2.2.1, item_no.2.2.2]
  exact alloc_last _ _
 case round =>
  obtain ⟨j, p, fb, rfl, hmv, hs, hbr⟩ := hrel
  have HM := Lib.hid hmv
  have HS := Lib.hid hs
  have HBR := Lib.hid hbr
  have HRj := Lib.hid (HR2.out.mv hmv)
  have HEj := Lib.hid (HEQ.out.below hmv.1)
  have hjs := hmv.2.1.2.1
  have HC1 := Lib.hid hmv.cur.facts.2.1
  obtain ⟨q0, q1, q2, qz⟩ := HRj.out.facts
  obtain ⟨⟨s0, s1, s2, s3⟩, ⟨f0, f1, f2, f3⟩, fz⟩ := cells4 hs
  clear hmv hs hbr
  cases fb with
  | true =>
   have HPj := Lib.hid (HPA.out j wr HRj.out HEj.out)
   cases hpr : partR cf s (decide (lg = 2)) j with
   | bad c pos =>
    have HB : Hid (R = .bad c pos) := Lib.hid (HBR.out.symm.trans (brkL_bad hjs (by simp) hpr))
    unfold PartPost at HPj
    rw [hpr] at HPj
    simp only at HPj
    clear hpr
    go_wp2_with fail
    refine HPj.out.mono ?_
    rintro e' wb ⟨v, k', rfl, hmb, her⟩
    have HMb := Lib.hid (HM.out.trans hmb)
    have HER := Lib.hid her
    obtain ⟨kk, rfl⟩ := her.iface
    have hzb : w.heap.size < wb.heap.size := Nat.lt_of_lt_of_le hg1 HMb.out.1.size
    have hzw : w.heap.size ≤ wr.heap.size := Nat.le_trans (Nat.le_of_lt hg1) HM.out.1.size
    have hg := (HMb.out.2.2 w.heap.size hg1 (by omega)).trans HG1.out
    obtain ⟨⟨c0, c1, c2, c3⟩, ⟨g0, g1, g2, g3⟩, hgz⟩ := cells4 hg
    clear hmb her hg
    unfold SV
    go_wp2
    refine bodyPost_ret (by simp [results, Tryz.results89, go_sem, c0, c1, c2, c3, hgz]; rfl) rfl ?_
    rw [HRR.out, HB.out]
    refine ⟨_, _, by unfold SV; rw [item_no.1, item_no.2.1, item_no.2.2.1, item_no.2.2.2], Mv.alo (Mv.setOther (Mv.setOther (Mv.setOther (Mv.setOther (HMQ.out.trans HMb.out) w.heap.size 0 _ (Nat.le_refl _) hcb) w.heap.size 1 _ (Nat.le_refl _) hcb) w.heap.size 2 _ (Nat.le_refl _) hcb) w.heap.size 3 _ (Nat.le_refl _) hcb) _, ?_⟩
    exact ErrS.below (ErrS.set (ErrS.set (ErrS.set (ErrS.set (HER.out.lower (by omega)) w.heap.size 0 _ (by omega)) w.heap.size 1 _ (by omega)) w.heap.size 2 _ (by omega)) w.heap.size 3 _ (by omega)) ((Below.refl _ _).alloc (Nat.le_refl _) _)
   | ok q nx =>
    have HB : Hid (brkL cf s (decide (lg = 2)) (s.size + 1 - nx) nx false (orP p q) = R) := Lib.hid ((brkL_step hjs (by simp) hpr).symm.trans HBR.out)
    have hnx := partR_next hpr
    unfold PartPost at HPj
    rw [hpr] at HPj
    simp only at HPj
    clear hpr
    go_wp2_with fail
    refine HPj.out.mono ?_
    rintro e' wb ⟨rfl, hmb⟩
    have HMb := Lib.hid (HM.out.trans hmb)
    have hsb := (hmb.2.2 w2.heap.size fz (by omega)).trans HS.out
    clear hmb
    obtain ⟨⟨t0, t1, t2, t3⟩, ⟨u0, u1, u2, u3⟩, uz⟩ := cells4 hsb
    have HSb := Lib.hid hsb
    clear hsb
    unfold SV
    go_wp2_with fail
    have HU := Lib.hid (unionL (wb.alloc (.cells #[.int .u64 (sw q 0 : Nat), .int .u64 (sw q 1 : Nat), .int .u64 (sw q 2 : Nat), .int .u64 (sw q 3 : Nat)] 54)) p q 54)
    simp only [World.size_alloc] at HU
    refine HU.out.mono ?_
    rintro e' wc ⟨rfl, hbc⟩
    have HMc := Lib.hid (HMb.out.trans (Mv.below HMb.out.2.1 (((Below.refl _ _).alloc (Nat.le_refl _) _).trans (hbc.mono (by simp)))))
    have hsc : wc.heap[w2.heap.size]? = some (.cells #[.int .u64 (sw p 0 : Nat), .int .u64 (sw p 1 : Nat), .int .u64 (sw p 2 : Nat), .int .u64 (sw p 3 : Nat)] 54) := (hbc.block _ (by omega)).trans ((Below.heap_alloc _ _ _ uz).trans HSb.out)
    clear hbc
    obtain ⟨⟨v0, v1, v2, v3⟩, ⟨x0, x1, x2, x3⟩, xz⟩ := cells4 hsc
    have HSc := Lib.hid hsc
    clear hsc
    unfold SV
    go_wp2_with fail
    skip
    refine ⟨⟨nx, orP p q, false, rfl, (Mv.setOther (Mv.setOther (Mv.setOther (Mv.setOther HMc.out w2.heap.size 0 _ (Nat.le_refl _) hcb1) w2.heap.size 1 _ (Nat.le_refl _) hcb1) w2.heap.size 2 _ (Nat.le_refl _) hcb1) w2.heap.size 3 _ (Nat.le_refl _) hcb1), blk_put (orP p q) HSc.out, HB.out⟩, ?_⟩
    rw [((Mv.setOther (Mv.setOther (Mv.setOther (Mv.setOther HMc.out w2.heap.size 0 _ (Nat.le_refl _) hcb1) w2.heap.size 1 _ (Nat.le_refl _) hcb1) w2.heap.size 2 _ (Nat.le_refl _) hcb1) w2.heap.size 3 _ (Nat.le_refl _) hcb1)).cur.facts.2.1, HC1.out]
    simp only
    omega
  | false =>
   by_cases h93 : atB s j = 93
   ·have HT9 := Lib.hid (take1_yes cb j s 93 wr HRj.out.2.1 (by decide) h93)
    have HB : Hid (R = .ok p (j + 1)) := Lib.hid (HBR.out.symm.trans (brkL_ok hjs h93))
    go_wp2_with fail
    refine HT9.out.mono ?_
    rintro e' wk ⟨rfl, hmk⟩
    have HMk := Lib.hid (HM.out.trans hmk)
    have hsk := (hmk.2.2 w2.heap.size fz (by omega)).trans HS.out
    have HSk := Lib.hid hsk
    obtain ⟨⟨t0, t1, t2, t3⟩, ⟨u0, u1, u2, u3⟩, uz⟩ := cells4 hsk
    clear hmk hsk
    have HNO : ∀ w, Hid (Calls Tryz.prog 74 #[.agg #[.int .u64 (sw p 0 : Nat), .int .u64 (sw p 1 : Nat), .int .u64 (sw p 2 : Nat), .int .u64 (sw p 3 : Nat)]] w fun e w' => e = .returned (SV (notP p)) ∧ Below w.heap.size w w') := fun w => Lib.hid (not_any p w)
    go_wp2_with fail
    refine (HNO _).out.mono ?_
    rintro e' wl ⟨rfl, hbl⟩
    have HMl := Lib.hid (HMk.out.trans (Mv.below HMk.out.2.1 hbl))
    have hsl := (hbl.block _ uz).trans HSk.out
    obtain ⟨⟨v0, v1, v2, v3⟩, ⟨x0, x1, x2, x3⟩, xz⟩ := cells4 hsl
    have hg := (HMl.out.2.2 w.heap.size hg1 (by omega)).trans HG1.out
    obtain ⟨⟨c0, c1, c2, c3⟩, ⟨g0, g1, g2, g3⟩, hgz⟩ := cells4 hg
    clear hbl hsl hg
    unfold SV
    go_wp2
    refine bodyPost_ret (by simp [results, Tryz.results89, go_sem, c0, c1, c2, c3]; rfl) rfl ?_
    rw [HRR.out, HB.out]
    exact ⟨rfl, (Mv.setOther (Mv.setOther (Mv.setOther (Mv.setOther (HMQ.out.trans (Mv.setOther (Mv.setOther (Mv.setOther (Mv.setOther HMl.out w2.heap.size 0 _ (Nat.le_refl _) hcb1) w2.heap.size 1 _ (Nat.le_refl _) hcb1) w2.heap.size 2 _ (Nat.le_refl _) hcb1) w2.heap.size 3 _ (Nat.le_refl _) hcb1)) w.heap.size 0 _ (Nat.le_refl _) hcb) w.heap.size 1 _ (Nat.le_refl _) hcb) w.heap.size 2 _ (Nat.le_refl _) hcb) w.heap.size 3 _ (Nat.le_refl _) hcb)⟩
   ·have HT9 := Lib.hid (take1_no cb j s 93 wr HRj.out.2.1 (by decide) h93)
    go_wp2_with fail
    refine HT9.out.mono ?_
    rintro e' wk ⟨rfl, hmk⟩
    have HMk := Lib.hid (HM.out.trans hmk)
    have HRk := Lib.hid (HRj.out.mv hmk)
    have HEk := Lib.hid (HEj.out.below hmk.1)
    have HSk := Lib.hid ((hmk.2.2 w2.heap.size fz (by omega)).trans HS.out)
    have fzk : w2.heap.size < wk.heap.size := Nat.lt_of_lt_of_le fz hmk.1.size
    clear hmk
    have HPj := Lib.hid (HPA.out j wk HRk.out HEk.out)
    cases hpr : partR cf s (decide (lg = 2)) j with
    | bad c pos =>
     have HB : Hid (R = .bad c pos) := Lib.hid (HBR.out.symm.trans (brkL_bad hjs (fun h => h93 h.2) hpr))
     unfold PartPost at HPj
     rw [hpr] at HPj
     simp only at HPj
     clear hpr
     go_wp2_with fail
     refine HPj.out.mono ?_
     rintro e' wb ⟨v, k', rfl, hmb, her⟩
     have HMb := Lib.hid (HMk.out.trans hmb)
     have HER := Lib.hid her
     obtain ⟨kk, rfl⟩ := her.iface
     have hzb : w.heap.size < wb.heap.size := Nat.lt_of_lt_of_le hg1 HMb.out.1.size
     have hzw : w.heap.size ≤ wk.heap.size := Nat.le_trans (Nat.le_of_lt hg1) HMk.out.1.size
     have hg := (HMb.out.2.2 w.heap.size hg1 (by omega)).trans HG1.out
     obtain ⟨⟨c0, c1, c2, c3⟩, ⟨g0, g1, g2, g3⟩, hgz⟩ := cells4 hg
     clear hmb her hg
     unfold SV
     go_wp2
     refine bodyPost_ret (by simp [results, Tryz.results89, go_sem, c0, c1, c2, c3, hgz]; rfl) rfl ?_
     rw [HRR.out, HB.out]
     refine ⟨_, _, by unfold SV; rw [item_no.1, item_no.2.1, item_no.2.2.1, item_no.2.2.2], Mv.alo (Mv.setOther (Mv.setOther (Mv.setOther (Mv.setOther (HMQ.out.trans HMb.out) w.heap.size 0 _ (Nat.le_refl _) hcb) w.heap.size 1 _ (Nat.le_refl _) hcb) w.heap.size 2 _ (Nat.le_refl _) hcb) w.heap.size 3 _ (Nat.le_refl _) hcb) _, ?_⟩
     exact ErrS.below (ErrS.set (ErrS.set (ErrS.set (ErrS.set (HER.out.lower (by omega)) w.heap.size 0 _ (by omega)) w.heap.size 1 _ (by omega)) w.heap.size 2 _ (by omega)) w.heap.size 3 _ (by omega)) ((Below.refl _ _).alloc (Nat.le_refl _) _)
    | ok q nx =>
     have HB : Hid (brkL cf s (decide (lg = 2)) (s.size + 1 - nx) nx false (orP p q) = R) := Lib.hid ((brkL_step hjs (fun h => h93 h.2) hpr).symm.trans HBR.out)
     have hnx := partR_next hpr
     unfold PartPost at HPj
     rw [hpr] at HPj
     simp only at HPj
     clear hpr
     go_wp2_with fail
     refine HPj.out.mono ?_
     rintro e' wb ⟨rfl, hmb⟩
     have HMb := Lib.hid (HMk.out.trans hmb)
     have hsb := (hmb.2.2 w2.heap.size fzk (by omega)).trans HSk.out
     clear hmb
     obtain ⟨⟨t0, t1, t2, t3⟩, ⟨u0, u1, u2, u3⟩, uz⟩ := cells4 hsb
     have HSb := Lib.hid hsb
     clear hsb
     unfold SV
     go_wp2_with fail
     have HU := Lib.hid (unionL (wb.alloc (.cells #[.int .u64 (sw q 0 : Nat), .int .u64 (sw q 1 : Nat), .int .u64 (sw q 2 : Nat), .int .u64 (sw q 3 : Nat)] 54)) p q 54)
     simp only [World.size_alloc] at HU
     refine HU.out.mono ?_
     rintro e' wc ⟨rfl, hbc⟩
     have HMc := Lib.hid (HMb.out.trans (Mv.below HMb.out.2.1 (((Below.refl _ _).alloc (Nat.le_refl _) _).trans (hbc.mono (by simp)))))
     have hsc : wc.heap[w2.heap.size]? = some (.cells #[.int .u64 (sw p 0 : Nat), .int .u64 (sw p 1 : Nat), .int .u64 (sw p 2 : Nat), .int .u64 (sw p 3 : Nat)] 54) := (hbc.block _ (by omega)).trans ((Below.heap_alloc _ _ _ uz).trans HSb.out)
     clear hbc
     obtain ⟨⟨v0, v1, v2, v3⟩, ⟨x0, x1, x2, x3⟩, xz⟩ := cells4 hsc
     have HSc := Lib.hid hsc
     clear hsc
     unfold SV
     go_wp2_with fail
     skip
     refine ⟨⟨nx, orP p q, false, rfl, (Mv.setOther (Mv.setOther (Mv.setOther (Mv.setOther HMc.out w2.heap.size 0 _ (Nat.le_refl _) hcb1) w2.heap.size 1 _ (Nat.le_refl _) hcb1) w2.heap.size 2 _ (Nat.le_refl _) hcb1) w2.heap.size 3 _ (Nat.le_refl _) hcb1), blk_put (orP p q) HSc.out, HB.out⟩, ?_⟩
     rw [((Mv.setOther (Mv.setOther (Mv.setOther (Mv.setOther HMc.out w2.heap.size 0 _ (Nat.le_refl _) hcb1) w2.heap.size 1 _ (Nat.le_refl _) hcb1) w2.heap.size 2 _ (Nat.le_refl _) hcb1) w2.heap.size 3 _ (Nat.le_refl _) hcb1)).cur.facts.2.1, HC1.out]
     simp only
     omega
set_option maxHeartbeats 16000000 in
theorem brk_glob (cf : ByteArray → (Nat → Bool) × Bool) (hcf : ClassOk cf) (e : Nat → Addr) (rb cb : Nat) (s : ByteArray) (k ah : Nat) (lg : Int) (hb47 : s.size ≤ 140737488351232) (w : World) (he : Es w cb e) (h : Rdr w rb cb s k ah lg) (hlg : lg = 2) (h1 : ¬ atB s k = 94) (h2 : ¬ atB s k = 33) (hk0 : k ≤ s.size) :
  Calls Tryz.prog 89 #[.pointer (some ⟨rb, 0, none⟩)] w (BrkPost (brkT false (brkL cf s (decide (lg = 2)) (s.size + 1 - k) k true noP)) e cb s ah lg w) := by
 have HH := Lib.hid h
 have HE := Lib.hid he
 have HT1 : Hid (∀ w', Cur w' cb s k → Calls Tryz.prog 77 #[.pointer (some ⟨cb, 0, none⟩), .string ⟨#[94]⟩] w' fun e w'' => e = .returned (.bool false) ∧ Mv cb s k w' w'') := Lib.hid fun w' h' => take1_no cb k s 94 w' h' (by decide) h1
 have HT2 : Hid (∀ w', Cur w' cb s k → Calls Tryz.prog 77 #[.pointer (some ⟨cb, 0, none⟩), .string ⟨#[33]⟩] w' fun e w'' => e = .returned (.bool false) ∧ Mv cb s k w' w'') := Lib.hid fun w' h' => take1_no cb k s 33 w' h' (by decide) h2
 have HPA : Hid (∀ (j : Nat) (w' : World), Rdr w' rb cb s j ah lg → Es w' cb e → Calls Tryz.prog 97 #[.pointer (some ⟨rb, 0, none⟩)] w' (PartPost cf e cb s j ah lg w')) := Lib.hid fun j w' h' e' => part_any cf hcf e rb cb s j ah lg hb47 w' e' h'
 clear h he h1 h2
 obtain ⟨r0, r1, r2, rz⟩ := HH.out.facts
 go_enter Tryz.func89, Tryz.ntmps89
 go_wp2_with fail
 obtain ⟨W, hW⟩ : ∃ W, W = w.alloc (.cells #[.int .u64 0, .int .u64 0, .int .u64 0, .int .u64 0] 54) := ⟨_, rfl⟩
 rw [← hW]
 have HMW : Hid (Mv cb s k w W) := Lib.hid (by rw [hW]; exact Mv.below HH.out.2.1 ((Below.refl _ _).alloc (Nat.le_refl _) _))
 have HG0 : Hid (W.heap[w.heap.size]? = some (.cells #[.int .u64 0, .int .u64 0, .int .u64 0, .int .u64 0] 54)) := Lib.hid (by rw [hW]; exact alloc_last w _)
 have hsz : w.heap.size < W.heap.size := by rw [hW]; simp
 clear hW r0 r1 r2 rz
 have hcb := HH.out.lt.2
 have HR0 := Lib.hid (HH.out.mv HMW.out)
 have HM0 := Lib.hid (Mv.refl HR0.out.2.1)
 have HE0 := Lib.hid (HE.out.below HMW.out.1)
 refine (HT1.out _ HR0.out.2.1).mono ?_
 rintro e' w1 ⟨rfl, hm1⟩
 have HM1 := Lib.hid (HM0.out.trans hm1)
 have HR1 := Lib.hid (HR0.out.mv HM1.out)
 obtain ⟨a10, a11, a12, a1z⟩ := HR1.out.facts
 clear hm1
 go_wp2_with fail
 refine (HT2.out _ HR1.out.2.1).mono ?_
 rintro e' w2 ⟨rfl, hm2⟩
 have HM2 := Lib.hid (HM1.out.trans hm2)
 have HR2 := Lib.hid (HR0.out.mv HM2.out)
 obtain ⟨a20, a21, a22, a2z⟩ := HR2.out.facts
 clear hm2
 have HX : Hid (W.heap.size ≤ w2.heap.size) := Lib.hid HM2.out.1.size
 have hcb1 : cb < w2.heap.size := HR2.out.lt.2
 have hg1 : w.heap.size < w2.heap.size := Nat.lt_of_lt_of_le hsz HX.out
 have HG1 := Lib.hid ((HM2.out.2.2 w.heap.size hsz (by omega)).trans HG0.out)
 have HMQ := Lib.hid (HMW.out.trans HM2.out)
 have HEQ := Lib.hid (HE0.out.below HM2.out.1)
 generalize hR : brkL cf s (decide (lg = 2)) (s.size + 1 - k) k true noP = R
 have HRR := Lib.hid hR
 clear hR
 go_wp2_with fail
 go_loopw [6] (fun f wr => ∃ (j : Nat) (p : Nat → Bool) (fb : Bool), f = .bool fb ∧ Mv cb s j w2 wr ∧ wr.heap[w2.heap.size]? = some (.cells #[.int .u64 (sw p 0 : Nat), .int .u64 (sw p 1 : Nat), .int .u64 (sw p 2 : Nat), .int .u64 (sw p 3 : Nat)] 54) ∧ brkL cf s (decide (lg = 2)) (s.size + 1 - j) j fb p = R) (fun _ wr => match wr.cell? ⟨cb, 1, none⟩ with | some (.int _ n) => s.size + 1 - n.toNat | _ => 0)
 case atStart =>
  refine ⟨k, noP, true, rfl, Mv.below HR2.out.2.1 ((Below.refl _ _).alloc (Nat.le_refl _) _), ?_, HRR.out⟩
  rw [item_no.1, item_no.2.1, item_no.2.2.1, item_no.2.2.2]
  exact alloc_last _ _
 case round =>
  obtain ⟨j, p, fb, rfl, hmv, hs, hbr⟩ := hrel
  have HM := Lib.hid hmv
  have HS := Lib.hid hs
  have HBR := Lib.hid hbr
  have HRj := Lib.hid (HR2.out.mv hmv)
  have HEj := Lib.hid (HEQ.out.below hmv.1)
  have hjs := hmv.2.1.2.1
  have HC1 := Lib.hid hmv.cur.facts.2.1
  obtain ⟨q0, q1, q2, qz⟩ := HRj.out.facts
  obtain ⟨⟨s0, s1, s2, s3⟩, ⟨f0, f1, f2, f3⟩, fz⟩ := cells4 hs
  clear hmv hs hbr
  cases fb with
  | true =>
   have HPj := Lib.hid (HPA.out j wr HRj.out HEj.out)
   cases hpr : partR cf s (decide (lg = 2)) j with
   | bad c pos =>
    have HB : Hid (R = .bad c pos) := Lib.hid (HBR.out.symm.trans (brkL_bad hjs (by simp) hpr))
    unfold PartPost at HPj
    rw [hpr] at HPj
    simp only at HPj
    clear hpr
    go_wp2_with fail
    refine HPj.out.mono ?_
    rintro e' wb ⟨v, k', rfl, hmb, her⟩
    have HMb := Lib.hid (HM.out.trans hmb)
    have HER := Lib.hid her
    obtain ⟨kk, rfl⟩ := her.iface
    have hzb : w.heap.size < wb.heap.size := Nat.lt_of_lt_of_le hg1 HMb.out.1.size
    have hzw : w.heap.size ≤ wr.heap.size := Nat.le_trans (Nat.le_of_lt hg1) HM.out.1.size
    have hg := (HMb.out.2.2 w.heap.size hg1 (by omega)).trans HG1.out
    obtain ⟨⟨c0, c1, c2, c3⟩, ⟨g0, g1, g2, g3⟩, hgz⟩ := cells4 hg
    clear hmb her hg
    unfold SV
    go_wp2
    refine bodyPost_ret (by simp [results, Tryz.results89, go_sem, c0, c1, c2, c3, hgz]; rfl) rfl ?_
    rw [HRR.out, HB.out]
    refine ⟨_, _, by unfold SV; rw [item_no.1, item_no.2.1, item_no.2.2.1, item_no.2.2.2], Mv.alo (Mv.setOther (Mv.setOther (Mv.setOther (Mv.setOther (HMQ.out.trans HMb.out) w.heap.size 0 _ (Nat.le_refl _) hcb) w.heap.size 1 _ (Nat.le_refl _) hcb) w.heap.size 2 _ (Nat.le_refl _) hcb) w.heap.size 3 _ (Nat.le_refl _) hcb) _, ?_⟩
    exact ErrS.below (ErrS.set (ErrS.set (ErrS.set (ErrS.set (HER.out.lower (by omega)) w.heap.size 0 _ (by omega)) w.heap.size 1 _ (by omega)) w.heap.size 2 _ (by omega)) w.heap.size 3 _ (by omega)) ((Below.refl _ _).alloc (Nat.le_refl _) _)
   | ok q nx =>
    have HB : Hid (brkL cf s (decide (lg = 2)) (s.size + 1 - nx) nx false (orP p q) = R) := Lib.hid ((brkL_step hjs (by simp) hpr).symm.trans HBR.out)
    have hnx := partR_next hpr
    unfold PartPost at HPj
    rw [hpr] at HPj
    simp only at HPj
    clear hpr
    go_wp2_with fail
    refine HPj.out.mono ?_
    rintro e' wb ⟨rfl, hmb⟩
    have HMb := Lib.hid (HM.out.trans hmb)
    have hsb := (hmb.2.2 w2.heap.size fz (by omega)).trans HS.out
    clear hmb
    obtain ⟨⟨t0, t1, t2, t3⟩, ⟨u0, u1, u2, u3⟩, uz⟩ := cells4 hsb
    have HSb := Lib.hid hsb
    clear hsb
    unfold SV
    go_wp2_with fail
    have HU := Lib.hid (unionL (wb.alloc (.cells #[.int .u64 (sw q 0 : Nat), .int .u64 (sw q 1 : Nat), .int .u64 (sw q 2 : Nat), .int .u64 (sw q 3 : Nat)] 54)) p q 54)
    simp only [World.size_alloc] at HU
    refine HU.out.mono ?_
    rintro e' wc ⟨rfl, hbc⟩
    have HMc := Lib.hid (HMb.out.trans (Mv.below HMb.out.2.1 (((Below.refl _ _).alloc (Nat.le_refl _) _).trans (hbc.mono (by simp)))))
    have hsc : wc.heap[w2.heap.size]? = some (.cells #[.int .u64 (sw p 0 : Nat), .int .u64 (sw p 1 : Nat), .int .u64 (sw p 2 : Nat), .int .u64 (sw p 3 : Nat)] 54) := (hbc.block _ (by omega)).trans ((Below.heap_alloc _ _ _ uz).trans HSb.out)
    clear hbc
    obtain ⟨⟨v0, v1, v2, v3⟩, ⟨x0, x1, x2, x3⟩, xz⟩ := cells4 hsc
    have HSc := Lib.hid hsc
    clear hsc
    unfold SV
    go_wp2_with fail
    skip
    refine ⟨⟨nx, orP p q, false, rfl, (Mv.setOther (Mv.setOther (Mv.setOther (Mv.setOther HMc.out w2.heap.size 0 _ (Nat.le_refl _) hcb1) w2.heap.size 1 _ (Nat.le_refl _) hcb1) w2.heap.size 2 _ (Nat.le_refl _) hcb1) w2.heap.size 3 _ (Nat.le_refl _) hcb1), blk_put (orP p q) HSc.out, HB.out⟩, ?_⟩
    rw [((Mv.setOther (Mv.setOther (Mv.setOther (Mv.setOther HMc.out w2.heap.size 0 _ (Nat.le_refl _) hcb1) w2.heap.size 1 _ (Nat.le_refl _) hcb1) w2.heap.size 2 _ (Nat.le_refl _) hcb1) w2.heap.size 3 _ (Nat.le_refl _) hcb1)).cur.facts.2.1, HC1.out]
    simp only
    omega
  | false =>
   by_cases h93 : atB s j = 93
   ·have HT9 := Lib.hid (take1_yes cb j s 93 wr HRj.out.2.1 (by decide) h93)
    have HB : Hid (R = .ok p (j + 1)) := Lib.hid (HBR.out.symm.trans (brkL_ok hjs h93))
    go_wp2_with fail
    refine HT9.out.mono ?_
    rintro e' wk ⟨rfl, hmk⟩
    have HMk := Lib.hid (HM.out.trans hmk)
    have hsk := (hmk.2.2 w2.heap.size fz (by omega)).trans HS.out
    have HSk := Lib.hid hsk
    obtain ⟨⟨t0, t1, t2, t3⟩, ⟨u0, u1, u2, u3⟩, uz⟩ := cells4 hsk
    clear hmk hsk
    have hg := (HMk.out.2.2 w.heap.size hg1 (by omega)).trans HG1.out
    obtain ⟨⟨c0, c1, c2, c3⟩, ⟨g0, g1, g2, g3⟩, hgz⟩ := cells4 hg
    clear hg
    go_wp2
    refine bodyPost_ret (by simp [results, Tryz.results89, go_sem, c0, c1, c2, c3]; rfl) rfl ?_
    rw [HRR.out, HB.out]
    exact ⟨rfl, (Mv.setOther (Mv.setOther (Mv.setOther (Mv.setOther (HMQ.out.trans HMk.out) w.heap.size 0 _ (Nat.le_refl _) hcb) w.heap.size 1 _ (Nat.le_refl _) hcb) w.heap.size 2 _ (Nat.le_refl _) hcb) w.heap.size 3 _ (Nat.le_refl _) hcb)⟩
   ·have HT9 := Lib.hid (take1_no cb j s 93 wr HRj.out.2.1 (by decide) h93)
    go_wp2_with fail
    refine HT9.out.mono ?_
    rintro e' wk ⟨rfl, hmk⟩
    have HMk := Lib.hid (HM.out.trans hmk)
    have HRk := Lib.hid (HRj.out.mv hmk)
    have HEk := Lib.hid (HEj.out.below hmk.1)
    have HSk := Lib.hid ((hmk.2.2 w2.heap.size fz (by omega)).trans HS.out)
    have fzk : w2.heap.size < wk.heap.size := Nat.lt_of_lt_of_le fz hmk.1.size
    clear hmk
    have HPj := Lib.hid (HPA.out j wk HRk.out HEk.out)
    cases hpr : partR cf s (decide (lg = 2)) j with
    | bad c pos =>
     have HB : Hid (R = .bad c pos) := Lib.hid (HBR.out.symm.trans (brkL_bad hjs (fun h => h93 h.2) hpr))
     unfold PartPost at HPj
     rw [hpr] at HPj
     simp only at HPj
     clear hpr
     go_wp2_with fail
     refine HPj.out.mono ?_
     rintro e' wb ⟨v, k', rfl, hmb, her⟩
     have HMb := Lib.hid (HMk.out.trans hmb)
     have HER := Lib.hid her
     obtain ⟨kk, rfl⟩ := her.iface
     have hzb : w.heap.size < wb.heap.size := Nat.lt_of_lt_of_le hg1 HMb.out.1.size
     have hzw : w.heap.size ≤ wk.heap.size := Nat.le_trans (Nat.le_of_lt hg1) HMk.out.1.size
     have hg := (HMb.out.2.2 w.heap.size hg1 (by omega)).trans HG1.out
     obtain ⟨⟨c0, c1, c2, c3⟩, ⟨g0, g1, g2, g3⟩, hgz⟩ := cells4 hg
     clear hmb her hg
     unfold SV
     go_wp2
     refine bodyPost_ret (by simp [results, Tryz.results89, go_sem, c0, c1, c2, c3, hgz]; rfl) rfl ?_
     rw [HRR.out, HB.out]
     refine ⟨_, _, by unfold SV; rw [item_no.1, item_no.2.1, item_no.2.2.1, item_no.2.2.2], Mv.alo (Mv.setOther (Mv.setOther (Mv.setOther (Mv.setOther (HMQ.out.trans HMb.out) w.heap.size 0 _ (Nat.le_refl _) hcb) w.heap.size 1 _ (Nat.le_refl _) hcb) w.heap.size 2 _ (Nat.le_refl _) hcb) w.heap.size 3 _ (Nat.le_refl _) hcb) _, ?_⟩
     exact ErrS.below (ErrS.set (ErrS.set (ErrS.set (ErrS.set (HER.out.lower (by omega)) w.heap.size 0 _ (by omega)) w.heap.size 1 _ (by omega)) w.heap.size 2 _ (by omega)) w.heap.size 3 _ (by omega)) ((Below.refl _ _).alloc (Nat.le_refl _) _)
    | ok q nx =>
     have HB : Hid (brkL cf s (decide (lg = 2)) (s.size + 1 - nx) nx false (orP p q) = R) := Lib.hid ((brkL_step hjs (fun h => h93 h.2) hpr).symm.trans HBR.out)
     have hnx := partR_next hpr
     unfold PartPost at HPj
     rw [hpr] at HPj
     simp only at HPj
     clear hpr
     go_wp2_with fail
     refine HPj.out.mono ?_
     rintro e' wb ⟨rfl, hmb⟩
     have HMb := Lib.hid (HMk.out.trans hmb)
     have hsb := (hmb.2.2 w2.heap.size fzk (by omega)).trans HSk.out
     clear hmb
     obtain ⟨⟨t0, t1, t2, t3⟩, ⟨u0, u1, u2, u3⟩, uz⟩ := cells4 hsb
     have HSb := Lib.hid hsb
     clear hsb
     unfold SV
     go_wp2_with fail
     have HU := Lib.hid (unionL (wb.alloc (.cells #[.int .u64 (sw q 0 : Nat), .int .u64 (sw q 1 : Nat), .int .u64 (sw q 2 : Nat), .int .u64 (sw q 3 : Nat)] 54)) p q 54)
     simp only [World.size_alloc] at HU
     refine HU.out.mono ?_
     rintro e' wc ⟨rfl, hbc⟩
     have HMc := Lib.hid (HMb.out.trans (Mv.below HMb.out.2.1 (((Below.refl _ _).alloc (Nat.le_refl _) _).trans (hbc.mono (by simp)))))
     have hsc : wc.heap[w2.heap.size]? = some (.cells #[.int .u64 (sw p 0 : Nat), .int .u64 (sw p 1 : Nat), .int .u64 (sw p 2 : Nat), .int .u64 (sw p 3 : Nat)] 54) := (hbc.block _ (by omega)).trans ((Below.heap_alloc _ _ _ uz).trans HSb.out)
     clear hbc
     obtain ⟨⟨v0, v1, v2, v3⟩, ⟨x0, x1, x2, x3⟩, xz⟩ := cells4 hsc
     have HSc := Lib.hid hsc
     clear hsc
     unfold SV
     go_wp2_with fail
     skip
     refine ⟨⟨nx, orP p q, false, rfl, (Mv.setOther (Mv.setOther (Mv.setOther (Mv.setOther HMc.out w2.heap.size 0 _ (Nat.le_refl _) hcb1) w2.heap.size 1 _ (Nat.le_refl _) hcb1) w2.heap.size 2 _ (Nat.le_refl _) hcb1) w2.heap.size 3 _ (Nat.le_refl _) hcb1), blk_put (orP p q) HSc.out, HB.out⟩, ?_⟩
     rw [((Mv.setOther (Mv.setOther (Mv.setOther (Mv.setOther HMc.out w2.heap.size 0 _ (Nat.le_refl _) hcb1) w2.heap.size 1 _ (Nat.le_refl _) hcb1) w2.heap.size 2 _ (Nat.le_refl _) hcb1) w2.heap.size 3 _ (Nat.le_refl _) hcb1)).cur.facts.2.1, HC1.out]
     simp only
     omega
theorem brk_any (cf : ByteArray → (Nat → Bool) × Bool) (hcf : ClassOk cf) (e : Nat → Addr) (rb cb : Nat) (s : ByteArray) (k ah : Nat) (lg : Int) (hb47 : s.size ≤ 140737488351232) (w : World) (he : Es w cb e) (h : Rdr w rb cb s k ah lg) :
  Calls Tryz.prog 89 #[.pointer (some ⟨rb, 0, none⟩)] w (BrkPost (brkR cf s (decide (lg = 2)) k) e cb s ah lg w) := by
 have hks := h.2.1.2.1
 unfold brkR
 by_cases h1 : atB s k = 94
 ·rw [if_pos (Or.inl h1)]
  have := atB_in (s := s) (k := k) (by rw [h1]; decide)
  exact brk_hat cf hcf e rb cb s k ah lg hb47 w he h h1 (by omega)
 ·by_cases hlg : lg = 2
  ·by_cases h2 : atB s k = 33
   ·rw [if_pos (Or.inr ⟨by simpa using hlg, h2⟩)]
    have := atB_in (s := s) (k := k) (by rw [h2]; decide)
    exact brk_bang cf hcf e rb cb s k ah lg hb47 w he h hlg h1 h2 (by omega)
   ·rw [if_neg (fun h => h.elim h1 fun h => h2 h.2)]
    exact brk_glob cf hcf e rb cb s k ah lg hb47 w he h hlg h1 h2 hks
  ·rw [if_neg (fun h => h.elim h1 fun h => hlg (by simpa using h.1))]
   exact brk_plain cf hcf e rb cb s k ah lg hb47 w he h hlg h1 hks
theorem brkL_gt (cf : ByteArray → (Nat → Bool) × Bool) {s : ByteArray} {g : Bool} : ∀ (n k : Nat) (f : Bool) (p q : Nat → Bool) (m : Nat), brkL cf s g n k f p = .ok q m → k < m ∧ m ≤ s.size ∧ (¬ (f = false ∧ atB s k = 93) → k + 1 < m) := by
 intro n
 induction n with
 | zero => intro k f p q m h; cases h
 | succ n ih =>
  intro k f p q m h
  unfold brkL at h
  split at h
  ·rename_i c1
   have e : k + 1 = m := by injection h
   have := atB_in (s := s) (k := k) (by rw [c1.2]; decide)
   exact ⟨by omega, by omega, fun hh => absurd c1 hh⟩
  ·cases hp : partR cf s g k with
   | bad c pos => rw [hp] at h; cases h
   | ok r nx =>
    rw [hp] at h
    simp only at h
    have b1 := partR_next hp
    have b2 := ih nx false _ q m h
    exact ⟨by omega, b2.2.1, fun _ => by omega⟩
def BkPost (r : BR) (e : Nat → Addr) (k : Nat) (lg : Int) (w : World) (x : Ending) (w' : World) : Prop :=
 match r with
 | .ok p nx => x = .returned (.tuple #[SV p, .int .i64 (k + nx : Nat), .nilIface]) ∧ Below w.heap.size w w'
 | .bad c pos => ∃ v, x = .returned (.tuple #[SV noP, .int .i64 0, v]) ∧ ErrS w' w.heap.size e lg c (k + pos : Nat) v ∧ Below w.heap.size w w'
theorem lt_blkB {w : World} {g : Nat} {o : Obj} (h : w.heap[g]? = some o) : g < w.heap.size := by
 rcases Nat.lt_or_ge g w.heap.size with h' | h'
 ·exact h'
 ·rw [Array.getElem?_eq_none h'] at h; cases h
theorem blk_putB {V : World} {b : Nat} {a0 a1 a2 a3 : Value} (q : Nat → Bool) {t : TypeId} (h : V.heap[b]? = some (.cells #[a0, a1, a2, a3] t)) :
  ((((V.setCell ⟨b, 0, none⟩ (.int .u64 (sw q 0 : Nat))).setCell ⟨b, 1, none⟩ (.int .u64 (sw q 1 : Nat))).setCell ⟨b, 2, none⟩ (.int .u64 (sw q 2 : Nat))).setCell ⟨b, 3, none⟩ (.int .u64 (sw q 3 : Nat))).heap[b]? = some (.cells #[.int .u64 (sw q 0 : Nat), .int .u64 (sw q 1 : Nat), .int .u64 (sw q 2 : Nat), .int .u64 (sw q 3 : Nat)] t) := by
 have st : ∀ (X : World) (cs : Array Value) (i : Nat) (v : Value), X.heap[b]? = some (.cells cs t) → (X.setCell ⟨b, i, none⟩ v).heap[b]? = some (.cells (cs.setIfInBounds i v) t) := fun X cs i v hx => by
  show (X.heap.modify b _)[b]? = _
  rw [Array.getElem?_modify, if_pos rfl, hx]
  rfl
 have := st _ _ 3 (.int .u64 (sw q 3 : Nat)) (st _ _ 2 (.int .u64 (sw q 2 : Nat)) (st _ _ 1 (.int .u64 (sw q 1 : Nat)) (st _ _ 0 (.int .u64 (sw q 0 : Nat)) h)))
 simpa using this
theorem Rdr.set {w : World} {rb cb : Nat} {s : ByteArray} {k ah : Nat} {lg : Int} (h : Rdr w rb cb s k ah lg) (g i : Nat) (v : Value) (h1 : rb ≠ g) (h2 : cb ≠ g) : Rdr (w.setCell ⟨g, i, none⟩ v) rb cb s k ah lg :=
 ⟨(Below.heap_setCell _ _ _ _ (by simpa using h1)).trans h.1, ⟨(Below.heap_setCell _ _ _ _ (by simpa using h2)).trans h.2.1.1, h.2.1.2⟩, h.2.2⟩
set_option maxHeartbeats 16000000 in
theorem bkt_runA (cf : ByteArray → (Nat → Bool) × Bool) (hcf : ClassOk cf) (e : Nat → Addr) (x o cap : Nat) (l : List Int) (k : Nat) (lg : Int) (hb47 : l.length ≤ 140737488351232) (w : World) (he : Es w w.heap.size e) (hs : Sl w (.slice (some ⟨x, o, none⟩) l.length cap) l) (hk : k ≤ l.length) (hcap : k < cap) (hlc : l.length ≤ cap) (hcm : cap ≤ 9223372036854775807) (hr : Row w x o l) (hlg : lg = 2 ∨ lg = 3 ∨ lg = 4) :
  Calls Tryz.prog 75 #[.slice (some ⟨x, o, none⟩) l.length cap, .int .i64 k, .int .i64 lg] w (BkPost (brkR cf (ofBys (l.drop k)) (decide (lg = 2)) 0) e k lg w) := by
 have hlen := hs.2.1
 have HE := Lib.hid he
 have HSD : Hid (Sl w (.slice (some ⟨x, o + k, none⟩) (l.length - k) (cap - k)) (l.drop k)) := Lib.hid (Sl.drop hs.1 hs.2.1 hlc hcm hr k hk)
 have HCF := Lib.hid hcf
 have HH : ∀ w, Hid (Calls Tryz.prog 87 #[.int .i64 lg] w fun e w' => e = .returned (.bool true) ∧ w = w') := fun w => Lib.hid (hasB_any lg w hlg)
 have hkI : (k : Int) ≤ (l.length : Int) := by omega
 have hk0 : (0 : Int) ≤ (k : Int) := by omega
 have hsb : (ofBys (l.drop k)).size + k ≤ 140737488351232 := by rw [ofBys_size, List.length_drop]; omega
 have hld : (l.drop k).length ≤ 140737488351232 := by rw [List.length_drop]; omega
 clear hs he hlg hcf
 go_enter Tryz.func75, Tryz.ntmps75
 go_wp2_with fail
 refine (HH _).out.mono ?_
 rintro e' w' ⟨rfl, rfl⟩
 go_wp2_with fail
 have HSA := Lib.hid (HSD.out.below (((Below.refl w.heap.size w).alloc (Nat.le_refl _) (.cells #[.int .u64 0, .int .u64 0, .int .u64 0, .int .u64 0] 54)).alloc (by simp) (.cells #[.pointer none, .int .i64 0, .int .i64 lg] 176)))
 refine (cnew_any _ (l.drop k) _ HSA.out).mono ?_
 rintro e' w' ⟨rfl, rfl⟩
 go_wp2_with fail
 obtain ⟨V, hV⟩ : ∃ V, V = (((w.alloc (.cells #[.int .u64 0, .int .u64 0, .int .u64 0, .int .u64 0] 54)).alloc (.cells #[.pointer (some ⟨w.heap.size + 1 + 1, 0, none⟩), .int .i64 k, .int .i64 lg] 176)).alloc (.cells #[.string (ofBys (l.drop k)), .int .i64 0] 159)) := ⟨_, rfl⟩
 rw [← hV]
 have HBV : Hid (Below (w.heap.size + 1) (w.alloc (.cells #[.int .u64 0, .int .u64 0, .int .u64 0, .int .u64 0] 54)) V) := Lib.hid (by rw [hV]; exact ((Below.refl _ _).alloc (by simp) _).alloc (by simp) _)
 have HBW : Hid (Below w.heap.size w V) := Lib.hid (((Below.refl _ _).alloc (Nat.le_refl _) _).trans (HBV.out.mono (Nat.le_succ _)))
 have hvz : V.heap.size = w.heap.size + 1 + 1 + 1 := by rw [hV]; simp
 have HR : Hid (Rdr V (w.heap.size + 1) (w.heap.size + 1 + 1) (ofBys (l.drop k)) 0 k lg) := by
  refine Lib.hid ⟨?_, ⟨?_, by omega, by omega⟩, by omega, by omega⟩
  ·rw [hV, Below.heap_alloc _ _ _ (by simp)]
   have := alloc_last (w.alloc (.cells #[.int .u64 0, .int .u64 0, .int .u64 0, .int .u64 0] 54)) (.cells #[.pointer (some ⟨w.heap.size + 1 + 1, 0, none⟩), .int .i64 k, .int .i64 lg] 176)
   simpa using this
  ·rw [hV]
   have := alloc_last ((w.alloc (.cells #[.int .u64 0, .int .u64 0, .int .u64 0, .int .u64 0] 54)).alloc (.cells #[.pointer (some ⟨w.heap.size + 1 + 1, 0, none⟩), .int .i64 k, .int .i64 lg] 176)) (.cells #[.string (ofBys (l.drop k)), .int .i64 0] 159)
   simpa using this
 have HEV : Hid (Es V (w.heap.size + 1 + 1) e) := Lib.hid ⟨(HE.out.below HBW.out).var, by have := HE.out.low; omega, by omega⟩
 clear hV
 have HBK := Lib.hid (brk_any cf HCF.out e (w.heap.size + 1) (w.heap.size + 1 + 1) (ofBys (l.drop k)) 0 k lg (by omega) V HEV.out HR.out)
 have HG : ∀ w', Below (w.heap.size + 1) (w.alloc (.cells #[.int .u64 0, .int .u64 0, .int .u64 0, .int .u64 0] 54)) w' → w'.heap[w.heap.size]? = some (.cells #[.int .u64 0, .int .u64 0, .int .u64 0, .int .u64 0] 54) := fun w' hb => (hb.block _ (Nat.lt_succ_self _)).trans (alloc_last w _)
 have HGH := Lib.hid HG
 clear HG
 cases hbr : brkR cf (ofBys (l.drop k)) (decide (lg = 2)) 0 with
 | bad c pos =>
  rw [hbr] at HBK
  have HBR := Lib.hid hbr
  clear hbr
  refine HBK.out.mono ?_
  rintro e' w1 ⟨v, k', rfl, hm, her⟩
  have HB1 : Hid (Below (w.heap.size + 1) (w.alloc (.cells #[.int .u64 0, .int .u64 0, .int .u64 0, .int .u64 0] 54)) w1) := Lib.hid (HBV.out.trans (hm.1.mono (by omega)))
  have HER := Lib.hid her
  obtain ⟨kk, rfl⟩ := her.iface
  obtain ⟨⟨c0, c1, c2, c3⟩, ⟨g0, g1, g2, g3⟩, hgz⟩ := cells4 (HGH.out w1 HB1.out)
  clear hm her
  unfold SV
  go_wp2
  refine bodyPost_ret (by simp [results, Tryz.results75, go_sem, c0, c1, c2, c3, hgz]; rfl) rfl ?_
  rw [HBR.out]
  refine ⟨_, by unfold SV; rw [item_no.1, item_no.2.1, item_no.2.2.1, item_no.2.2.2], ErrS.lower (ErrS.below (ErrS.set (ErrS.set (ErrS.set (ErrS.set HER.out w.heap.size 0 _ (by omega)) w.heap.size 1 _ (by omega)) w.heap.size 2 _ (by omega)) w.heap.size 3 _ (by omega)) ((Below.refl _ _).alloc (Nat.le_refl _) _)) (by omega), ?_⟩
  exact (((((((Below.refl w.heap.size w).alloc (Nat.le_refl _) _).trans (HB1.out.mono (Nat.le_succ _))).setCell (p := ⟨w.heap.size, 0, none⟩) (Nat.le_refl _) _).setCell (p := ⟨w.heap.size, 1, none⟩) (Nat.le_refl _) _).setCell (p := ⟨w.heap.size, 2, none⟩) (Nat.le_refl _) _).setCell (p := ⟨w.heap.size, 3, none⟩) (Nat.le_refl _) _).alloc (by simp; omega) _
 | ok p nx =>
  rw [hbr] at HBK
  have HBR := Lib.hid hbr
  clear hbr
  refine HBK.out.mono ?_
  rintro e' w1 ⟨rfl, hm⟩
  have HB1 : Hid (Below (w.heap.size + 1) (w.alloc (.cells #[.int .u64 0, .int .u64 0, .int .u64 0, .int .u64 0] 54)) w1) := Lib.hid (HBV.out.trans (hm.1.mono (by omega)))
  have HR1 := Lib.hid (HR.out.mv hm)
  have hw1 : w.heap.size + 1 + 1 < w1.heap.size := HR1.out.lt.2
  clear hm
  unfold SV
  go_wp2_with fail
  obtain ⟨w2, hV⟩ : ∃ V, V = w1.alloc (.cells #[.int .u64 (sw p 0 : Nat), .int .u64 (sw p 1 : Nat), .int .u64 (sw p 2 : Nat), .int .u64 (sw p 3 : Nat)] 54) := ⟨_, rfl⟩
  rw [← hV]
  have HS0 : Hid (Below w.heap.size w w2 ∧ (∃ a b c d, w2.heap[w.heap.size]? = some (.cells #[a, b, c, d] 54)) ∧ Rdr w2 (w.heap.size + 1) (w.heap.size + 1 + 1) (ofBys (l.drop k)) nx k lg ∧ w2.heap[w1.heap.size]? = some (.cells #[.int .u64 (sw p 0 : Nat), .int .u64 (sw p 1 : Nat), .int .u64 (sw p 2 : Nat), .int .u64 (sw p 3 : Nat)] 54)) := by
   refine Lib.hid ⟨?_, ⟨_, _, _, _, HGH.out w2 ?_⟩, ?_, ?_⟩
   ·rw [hV]; exact (((Below.refl _ _).alloc (Nat.le_refl _) _).trans (HB1.out.mono (Nat.le_succ _))).alloc (by omega) _
   ·rw [hV]; exact HB1.out.alloc (by omega) _
   ·rw [hV]; exact HR1.out.mv (Mv.below HR1.out.2.1 ((Below.refl _ _).alloc (Nat.le_refl _) _))
   ·rw [hV]; exact alloc_last _ _
  clear hV
  refine Reg.wp_region_vals (fun X => Below w.heap.size w X ∧ (∃ a b c d, X.heap[w.heap.size]? = some (.cells #[a, b, c, d] 54)) ∧ Rdr X (w.heap.size + 1) (w.heap.size + 1 + 1) (ofBys (l.drop k)) nx k lg ∧ X.heap[w1.heap.size]? = some (.cells #[.int .u64 (sw p 0 : Nat), .int .u64 (sw p 1 : Nat), .int .u64 (sw p 2 : Nat), .int .u64 (sw p 3 : Nat)] 54)) (fun j => ([some (.agg #[.int .u64 (sw p 0 : Nat), .int .u64 (sw p 1 : Nat), .int .u64 (sw p 2 : Nat), .int .u64 (sw p 3 : Nat)]), some (.pointer (some ⟨w.heap.size + 1, 0, none⟩)), some (.int .i64 (k + nx : Nat)), none, some (.int .i64 (k + nx : Nat)), some (.nilIface)] : List (Option Value)).getD j none) (fun j _ X => j = 3 → X.heap[w.heap.size]? = some (.cells #[.int .u64 (sw p 0 : Nat), .int .u64 (sw p 1 : Nat), .int .u64 (sw p 2 : Nat), .int .u64 (sw p 3 : Nat)] 54)) (by kernel_rfl) (by kernel_rfl) (by kernel_rfl) (by kernel_rfl) ?rs0 ?rsE ?rsZ
  case rs0 => exact ⟨HS0.out.1.drew, HS0.out.2.1, HS0.out.2.2.1, HS0.out.2.2.2⟩
  case rsE =>
   refine Reg.EachV.plain rfl (fun T X hS hk K hK => ?_) ?_
   ·skip
    have g10 := hk.old 10 (by kernel_rfl) rfl
    obtain ⟨⟨y0, y1, y2, y3⟩, _, _⟩ := cells4 hS.2.2.2
    have hK := hK _ X hS (Reg.Is.of_val rfl) (fun _ _ _ h => h)
    clear hk
    go_simp
    exact hK
   refine Reg.EachV.plain rfl (fun T X hS hk K hK => ?_) ?_
   ·skip
    have g9 := hk.old 9 (by kernel_rfl) rfl
    have hK := hK _ X hS (Reg.Is.of_val rfl) (fun _ _ _ h => h)
    clear hk
    go_simp
    exact hK
   refine Reg.EachV.plain rfl (fun T X hS hk K hK => ?_) ?_
   ·skip
    have g52 := hk.val 1 52 (by kernel_rfl) (by kernel_rfl) rfl
    have hpl := place_any (w.heap.size + 1) (w.heap.size + 1 + 1) (ofBys (l.drop k)) nx k lg X hS.2.2.1
    clear hk
    go_simp
    refine hpl.mono ?_
    rintro e' w3 ⟨rfl, hm⟩
    have hl := hS.2.2.1.lt
    have hgl := lt_blkB hS.2.2.2
    obtain ⟨a, b, c, d, hg⟩ := hS.2.1
    have hgz := lt_blkB hg
    exact hK _ _ ⟨hS.1.trans (hm.1.mono (by omega)), ⟨a, b, c, d, (hm.2.2 _ hgz (by omega)).trans hg⟩, hS.2.2.1.mv hm, (hm.2.2 _ hgl (by omega)).trans hS.2.2.2⟩ (Reg.Is.of_val (by rfl)) (fun j x _ h3 hj => (hm.2.2 _ hgz (by omega)).trans (h3 hj))
   refine Reg.EachV.plain rfl (fun T X hS hk K hK => ?_) ?_
   ·skip
    have g6 := hk.old 6 (by kernel_rfl) rfl
    have g51 := hk.val 0 51 (by kernel_rfl) (by kernel_rfl) rfl
    obtain ⟨a, b, c, d, hg⟩ := hS.2.1
    obtain ⟨_, ⟨f0, f1, f2, f3⟩, hgz⟩ := cells4 hg
    obtain ⟨⟨z0, z1, z2, z3⟩, _, _⟩ := cells4 hg
    have hp := blk_putB p hg
    clear hk
    go_simp
    refine hK undef _ ⟨(((hS.1.setCell (p := ⟨w.heap.size, 0, none⟩) (Nat.le_refl _) _).setCell (p := ⟨w.heap.size, 1, none⟩) (Nat.le_refl _) _).setCell (p := ⟨w.heap.size, 2, none⟩) (Nat.le_refl _) _).setCell (p := ⟨w.heap.size, 3, none⟩) (Nat.le_refl _) _, ⟨_, _, _, _, hp⟩, (((hS.2.2.1.set w.heap.size 0 _ (by omega) (by omega)).set w.heap.size 1 _ (by omega) (by omega)).set w.heap.size 2 _ (by omega) (by omega)).set w.heap.size 3 _ (by omega) (by omega), ?_⟩ (Reg.Is.of_prop rfl fun _ => hp) (fun _ _ _ _ _ => hp)
    rw [Below.heap_setCell _ _ _ _ (by simp; omega), Below.heap_setCell _ _ _ _ (by simp; omega), Below.heap_setCell _ _ _ _ (by simp; omega), Below.heap_setCell _ _ _ _ (by simp; omega)]
    exact hS.2.2.2
   refine Reg.EachV.plain rfl (fun T X hS hk K hK => ?_) ?_
   ·skip
    have g53 := hk.val 2 53 (by kernel_rfl) (by kernel_rfl) rfl
    have hK := hK _ X hS (Reg.Is.of_val rfl) (fun _ _ _ h => h)
    clear hk
    go_simp
    exact hK
   refine Reg.EachV.plain rfl (fun T X hS hk K hK => ?_) ?_
   ·skip
    have hK := hK _ X hS (Reg.Is.of_val rfl) (fun _ _ _ h => h)
    clear hk
    go_simp
    exact hK
   exact Reg.EachV.nil
  case rsZ =>
   intro u w1 hS hI
   have e0 : u 0 = .agg #[.int .u64 (sw p 0 : Nat), .int .u64 (sw p 1 : Nat), .int .u64 (sw p 2 : Nat), .int .u64 (sw p 3 : Nat)] := (hI 0 (by decide)).val rfl
   have e1 : u 1 = .pointer (some ⟨w.heap.size + 1, 0, none⟩) := (hI 1 (by decide)).val rfl
   have e2 : u 2 = .int .i64 (k + nx : Nat) := (hI 2 (by decide)).val rfl
   have e3 := (hI 3 (by decide)).prop rfl
   have e4 : u 4 = .int .i64 (k + nx : Nat) := (hI 4 (by decide)).val rfl
   have e5 : u 5 = .nilIface := (hI 5 (by decide)).val rfl
   clear hI
   simp only [Reg.putAll, Act.put, List.setIfInBounds_toArray, List.set_cons_succ, List.set_cons_zero, Nat.zero_add, Nat.reduceAdd, e0, e1, e2, e4, e5]
   clear e0 e1 e2 e4 e5
   have hg := e3 rfl
   obtain ⟨⟨c0, c1, c2, c3⟩, _, _⟩ := cells4 hg
   have HBF := Lib.hid hS.1
   clear e3 hS
   go_wp2
   exact bodyPost_ret (by simp [results, Tryz.results75, go_sem, c0, c1, c2, c3]; rfl) rfl (by rw [HBR.out]; exact ⟨rfl, HBF.out⟩)
set_option maxHeartbeats 16000000 in
theorem bkt_runB (cf : ByteArray → (Nat → Bool) × Bool) (hcf : ClassOk cf) (e : Nat → Addr) (x o : Nat) (l : List Int) (k : Nat) (lg : Int) (hb47 : l.length ≤ 140737488351232) (w : World) (he : Es w w.heap.size e) (hs : Sl w (.slice (some ⟨x, o, none⟩) k k) l) (hlc : l.length = k) (hlg : lg = 2 ∨ lg = 3 ∨ lg = 4) :
  Calls Tryz.prog 75 #[.slice (some ⟨x, o, none⟩) k k, .int .i64 k, .int .i64 lg] w (BkPost (brkR cf (ofBys (l.drop k)) (decide (lg = 2)) 0) e k lg w) := by
 have hlen := hs.2.1
 have HE := Lib.hid he
 have HSD : Hid (Sl w (.slice (some ⟨x, o, none⟩) 0 0) (l.drop k)) := Lib.hid (⟨fun i => by simp [List.drop_of_length_le (Nat.le_of_eq hlc)], by simp [List.drop_of_length_le (Nat.le_of_eq hlc)], Or.inl ⟨List.drop_of_length_le (Nat.le_of_eq hlc), _, _, rfl⟩⟩)
 have HCF := Lib.hid hcf
 have HH : ∀ w, Hid (Calls Tryz.prog 87 #[.int .i64 lg] w fun e w' => e = .returned (.bool true) ∧ w = w') := fun w => Lib.hid (hasB_any lg w hlg)
 have hkI : (k : Int) ≤ (l.length : Int) := by omega
 have hk0 : (0 : Int) ≤ (k : Int) := by omega
 have hsb : (ofBys (l.drop k)).size + k ≤ 140737488351232 := by rw [ofBys_size, List.length_drop]; omega
 have hld : (l.drop k).length ≤ 140737488351232 := by rw [List.length_drop]; omega
 clear hs he hlg hcf
 go_enter Tryz.func75, Tryz.ntmps75
 go_wp2_with fail
 refine (HH _).out.mono ?_
 rintro e' w' ⟨rfl, rfl⟩
 go_wp2_with fail
 have HSA := Lib.hid (HSD.out.below (((Below.refl w.heap.size w).alloc (Nat.le_refl _) (.cells #[.int .u64 0, .int .u64 0, .int .u64 0, .int .u64 0] 54)).alloc (by simp) (.cells #[.pointer none, .int .i64 0, .int .i64 lg] 176)))
 refine (cnew_any _ (l.drop k) _ HSA.out).mono ?_
 rintro e' w' ⟨rfl, rfl⟩
 go_wp2_with fail
 obtain ⟨V, hV⟩ : ∃ V, V = (((w.alloc (.cells #[.int .u64 0, .int .u64 0, .int .u64 0, .int .u64 0] 54)).alloc (.cells #[.pointer (some ⟨w.heap.size + 1 + 1, 0, none⟩), .int .i64 k, .int .i64 lg] 176)).alloc (.cells #[.string (ofBys (l.drop k)), .int .i64 0] 159)) := ⟨_, rfl⟩
 rw [← hV]
 have HBV : Hid (Below (w.heap.size + 1) (w.alloc (.cells #[.int .u64 0, .int .u64 0, .int .u64 0, .int .u64 0] 54)) V) := Lib.hid (by rw [hV]; exact ((Below.refl _ _).alloc (by simp) _).alloc (by simp) _)
 have HBW : Hid (Below w.heap.size w V) := Lib.hid (((Below.refl _ _).alloc (Nat.le_refl _) _).trans (HBV.out.mono (Nat.le_succ _)))
 have hvz : V.heap.size = w.heap.size + 1 + 1 + 1 := by rw [hV]; simp
 have HR : Hid (Rdr V (w.heap.size + 1) (w.heap.size + 1 + 1) (ofBys (l.drop k)) 0 k lg) := by
  refine Lib.hid ⟨?_, ⟨?_, by omega, by omega⟩, by omega, by omega⟩
  ·rw [hV, Below.heap_alloc _ _ _ (by simp)]
   have := alloc_last (w.alloc (.cells #[.int .u64 0, .int .u64 0, .int .u64 0, .int .u64 0] 54)) (.cells #[.pointer (some ⟨w.heap.size + 1 + 1, 0, none⟩), .int .i64 k, .int .i64 lg] 176)
   simpa using this
  ·rw [hV]
   have := alloc_last ((w.alloc (.cells #[.int .u64 0, .int .u64 0, .int .u64 0, .int .u64 0] 54)).alloc (.cells #[.pointer (some ⟨w.heap.size + 1 + 1, 0, none⟩), .int .i64 k, .int .i64 lg] 176)) (.cells #[.string (ofBys (l.drop k)), .int .i64 0] 159)
   simpa using this
 have HEV : Hid (Es V (w.heap.size + 1 + 1) e) := Lib.hid ⟨(HE.out.below HBW.out).var, by have := HE.out.low; omega, by omega⟩
 clear hV
 have HBK := Lib.hid (brk_any cf HCF.out e (w.heap.size + 1) (w.heap.size + 1 + 1) (ofBys (l.drop k)) 0 k lg (by omega) V HEV.out HR.out)
 have HG : ∀ w', Below (w.heap.size + 1) (w.alloc (.cells #[.int .u64 0, .int .u64 0, .int .u64 0, .int .u64 0] 54)) w' → w'.heap[w.heap.size]? = some (.cells #[.int .u64 0, .int .u64 0, .int .u64 0, .int .u64 0] 54) := fun w' hb => (hb.block _ (Nat.lt_succ_self _)).trans (alloc_last w _)
 have HGH := Lib.hid HG
 clear HG
 cases hbr : brkR cf (ofBys (l.drop k)) (decide (lg = 2)) 0 with
 | bad c pos =>
  rw [hbr] at HBK
  have HBR := Lib.hid hbr
  clear hbr
  refine HBK.out.mono ?_
  rintro e' w1 ⟨v, k', rfl, hm, her⟩
  have HB1 : Hid (Below (w.heap.size + 1) (w.alloc (.cells #[.int .u64 0, .int .u64 0, .int .u64 0, .int .u64 0] 54)) w1) := Lib.hid (HBV.out.trans (hm.1.mono (by omega)))
  have HER := Lib.hid her
  obtain ⟨kk, rfl⟩ := her.iface
  obtain ⟨⟨c0, c1, c2, c3⟩, ⟨g0, g1, g2, g3⟩, hgz⟩ := cells4 (HGH.out w1 HB1.out)
  clear hm her
  unfold SV
  go_wp2
  refine bodyPost_ret (by simp [results, Tryz.results75, go_sem, c0, c1, c2, c3, hgz]; rfl) rfl ?_
  rw [HBR.out]
  refine ⟨_, by unfold SV; rw [item_no.1, item_no.2.1, item_no.2.2.1, item_no.2.2.2], ErrS.lower (ErrS.below (ErrS.set (ErrS.set (ErrS.set (ErrS.set HER.out w.heap.size 0 _ (by omega)) w.heap.size 1 _ (by omega)) w.heap.size 2 _ (by omega)) w.heap.size 3 _ (by omega)) ((Below.refl _ _).alloc (Nat.le_refl _) _)) (by omega), ?_⟩
  exact (((((((Below.refl w.heap.size w).alloc (Nat.le_refl _) _).trans (HB1.out.mono (Nat.le_succ _))).setCell (p := ⟨w.heap.size, 0, none⟩) (Nat.le_refl _) _).setCell (p := ⟨w.heap.size, 1, none⟩) (Nat.le_refl _) _).setCell (p := ⟨w.heap.size, 2, none⟩) (Nat.le_refl _) _).setCell (p := ⟨w.heap.size, 3, none⟩) (Nat.le_refl _) _).alloc (by simp; omega) _
 | ok p nx =>
  rw [hbr] at HBK
  have HBR := Lib.hid hbr
  clear hbr
  refine HBK.out.mono ?_
  rintro e' w1 ⟨rfl, hm⟩
  have HB1 : Hid (Below (w.heap.size + 1) (w.alloc (.cells #[.int .u64 0, .int .u64 0, .int .u64 0, .int .u64 0] 54)) w1) := Lib.hid (HBV.out.trans (hm.1.mono (by omega)))
  have HR1 := Lib.hid (HR.out.mv hm)
  have hw1 : w.heap.size + 1 + 1 < w1.heap.size := HR1.out.lt.2
  clear hm
  unfold SV
  go_wp2_with fail
  obtain ⟨w2, hV⟩ : ∃ V, V = w1.alloc (.cells #[.int .u64 (sw p 0 : Nat), .int .u64 (sw p 1 : Nat), .int .u64 (sw p 2 : Nat), .int .u64 (sw p 3 : Nat)] 54) := ⟨_, rfl⟩
  rw [← hV]
  have HS0 : Hid (Below w.heap.size w w2 ∧ (∃ a b c d, w2.heap[w.heap.size]? = some (.cells #[a, b, c, d] 54)) ∧ Rdr w2 (w.heap.size + 1) (w.heap.size + 1 + 1) (ofBys (l.drop k)) nx k lg ∧ w2.heap[w1.heap.size]? = some (.cells #[.int .u64 (sw p 0 : Nat), .int .u64 (sw p 1 : Nat), .int .u64 (sw p 2 : Nat), .int .u64 (sw p 3 : Nat)] 54)) := by
   refine Lib.hid ⟨?_, ⟨_, _, _, _, HGH.out w2 ?_⟩, ?_, ?_⟩
   ·rw [hV]; exact (((Below.refl _ _).alloc (Nat.le_refl _) _).trans (HB1.out.mono (Nat.le_succ _))).alloc (by omega) _
   ·rw [hV]; exact HB1.out.alloc (by omega) _
   ·rw [hV]; exact HR1.out.mv (Mv.below HR1.out.2.1 ((Below.refl _ _).alloc (Nat.le_refl _) _))
   ·rw [hV]; exact alloc_last _ _
  clear hV
  refine Reg.wp_region_vals (fun X => Below w.heap.size w X ∧ (∃ a b c d, X.heap[w.heap.size]? = some (.cells #[a, b, c, d] 54)) ∧ Rdr X (w.heap.size + 1) (w.heap.size + 1 + 1) (ofBys (l.drop k)) nx k lg ∧ X.heap[w1.heap.size]? = some (.cells #[.int .u64 (sw p 0 : Nat), .int .u64 (sw p 1 : Nat), .int .u64 (sw p 2 : Nat), .int .u64 (sw p 3 : Nat)] 54)) (fun j => ([some (.agg #[.int .u64 (sw p 0 : Nat), .int .u64 (sw p 1 : Nat), .int .u64 (sw p 2 : Nat), .int .u64 (sw p 3 : Nat)]), some (.pointer (some ⟨w.heap.size + 1, 0, none⟩)), some (.int .i64 (k + nx : Nat)), none, some (.int .i64 (k + nx : Nat)), some (.nilIface)] : List (Option Value)).getD j none) (fun j _ X => j = 3 → X.heap[w.heap.size]? = some (.cells #[.int .u64 (sw p 0 : Nat), .int .u64 (sw p 1 : Nat), .int .u64 (sw p 2 : Nat), .int .u64 (sw p 3 : Nat)] 54)) (by kernel_rfl) (by kernel_rfl) (by kernel_rfl) (by kernel_rfl) ?rs0 ?rsE ?rsZ
  case rs0 => exact ⟨HS0.out.1.drew, HS0.out.2.1, HS0.out.2.2.1, HS0.out.2.2.2⟩
  case rsE =>
   refine Reg.EachV.plain rfl (fun T X hS hk K hK => ?_) ?_
   ·skip
    have g10 := hk.old 10 (by kernel_rfl) rfl
    obtain ⟨⟨y0, y1, y2, y3⟩, _, _⟩ := cells4 hS.2.2.2
    have hK := hK _ X hS (Reg.Is.of_val rfl) (fun _ _ _ h => h)
    clear hk
    go_simp
    exact hK
   refine Reg.EachV.plain rfl (fun T X hS hk K hK => ?_) ?_
   ·skip
    have g9 := hk.old 9 (by kernel_rfl) rfl
    have hK := hK _ X hS (Reg.Is.of_val rfl) (fun _ _ _ h => h)
    clear hk
    go_simp
    exact hK
   refine Reg.EachV.plain rfl (fun T X hS hk K hK => ?_) ?_
   ·skip
    have g52 := hk.val 1 52 (by kernel_rfl) (by kernel_rfl) rfl
    have hpl := place_any (w.heap.size + 1) (w.heap.size + 1 + 1) (ofBys (l.drop k)) nx k lg X hS.2.2.1
    clear hk
    go_simp
    refine hpl.mono ?_
    rintro e' w3 ⟨rfl, hm⟩
    have hl := hS.2.2.1.lt
    have hgl := lt_blkB hS.2.2.2
    obtain ⟨a, b, c, d, hg⟩ := hS.2.1
    have hgz := lt_blkB hg
    exact hK _ _ ⟨hS.1.trans (hm.1.mono (by omega)), ⟨a, b, c, d, (hm.2.2 _ hgz (by omega)).trans hg⟩, hS.2.2.1.mv hm, (hm.2.2 _ hgl (by omega)).trans hS.2.2.2⟩ (Reg.Is.of_val (by rfl)) (fun j x _ h3 hj => (hm.2.2 _ hgz (by omega)).trans (h3 hj))
   refine Reg.EachV.plain rfl (fun T X hS hk K hK => ?_) ?_
   ·skip
    have g6 := hk.old 6 (by kernel_rfl) rfl
    have g51 := hk.val 0 51 (by kernel_rfl) (by kernel_rfl) rfl
    obtain ⟨a, b, c, d, hg⟩ := hS.2.1
    obtain ⟨_, ⟨f0, f1, f2, f3⟩, hgz⟩ := cells4 hg
    obtain ⟨⟨z0, z1, z2, z3⟩, _, _⟩ := cells4 hg
    have hp := blk_putB p hg
    clear hk
    go_simp
    refine hK undef _ ⟨(((hS.1.setCell (p := ⟨w.heap.size, 0, none⟩) (Nat.le_refl _) _).setCell (p := ⟨w.heap.size, 1, none⟩) (Nat.le_refl _) _).setCell (p := ⟨w.heap.size, 2, none⟩) (Nat.le_refl _) _).setCell (p := ⟨w.heap.size, 3, none⟩) (Nat.le_refl _) _, ⟨_, _, _, _, hp⟩, (((hS.2.2.1.set w.heap.size 0 _ (by omega) (by omega)).set w.heap.size 1 _ (by omega) (by omega)).set w.heap.size 2 _ (by omega) (by omega)).set w.heap.size 3 _ (by omega) (by omega), ?_⟩ (Reg.Is.of_prop rfl fun _ => hp) (fun _ _ _ _ _ => hp)
    rw [Below.heap_setCell _ _ _ _ (by simp; omega), Below.heap_setCell _ _ _ _ (by simp; omega), Below.heap_setCell _ _ _ _ (by simp; omega), Below.heap_setCell _ _ _ _ (by simp; omega)]
    exact hS.2.2.2
   refine Reg.EachV.plain rfl (fun T X hS hk K hK => ?_) ?_
   ·skip
    have g53 := hk.val 2 53 (by kernel_rfl) (by kernel_rfl) rfl
    have hK := hK _ X hS (Reg.Is.of_val rfl) (fun _ _ _ h => h)
    clear hk
    go_simp
    exact hK
   refine Reg.EachV.plain rfl (fun T X hS hk K hK => ?_) ?_
   ·skip
    have hK := hK _ X hS (Reg.Is.of_val rfl) (fun _ _ _ h => h)
    clear hk
    go_simp
    exact hK
   exact Reg.EachV.nil
  case rsZ =>
   intro u w1 hS hI
   have e0 : u 0 = .agg #[.int .u64 (sw p 0 : Nat), .int .u64 (sw p 1 : Nat), .int .u64 (sw p 2 : Nat), .int .u64 (sw p 3 : Nat)] := (hI 0 (by decide)).val rfl
   have e1 : u 1 = .pointer (some ⟨w.heap.size + 1, 0, none⟩) := (hI 1 (by decide)).val rfl
   have e2 : u 2 = .int .i64 (k + nx : Nat) := (hI 2 (by decide)).val rfl
   have e3 := (hI 3 (by decide)).prop rfl
   have e4 : u 4 = .int .i64 (k + nx : Nat) := (hI 4 (by decide)).val rfl
   have e5 : u 5 = .nilIface := (hI 5 (by decide)).val rfl
   clear hI
   simp only [Reg.putAll, Act.put, List.setIfInBounds_toArray, List.set_cons_succ, List.set_cons_zero, Nat.zero_add, Nat.reduceAdd, e0, e1, e2, e4, e5]
   clear e0 e1 e2 e4 e5
   have hg := e3 rfl
   obtain ⟨⟨c0, c1, c2, c3⟩, _, _⟩ := cells4 hg
   have HBF := Lib.hid hS.1
   clear e3 hS
   go_wp2
   exact bodyPost_ret (by simp [results, Tryz.results75, go_sem, c0, c1, c2, c3]; rfl) rfl (by rw [HBR.out]; exact ⟨rfl, HBF.out⟩)
theorem place_anyZ (rb cb : Nat) (s : ByteArray) (k : Nat) (lg : Int) (w : World) (h : Rdr w rb cb s k 0 lg) :
  Calls Tryz.prog 90 #[.pointer (some ⟨rb, 0, none⟩)] w fun e w' => e = .returned (.int .i64 (k : Nat)) ∧ Mv cb s k w w' := by
 have := place_any rb cb s k 0 lg w h
 rwa [Nat.zero_add] at this
set_option maxHeartbeats 16000000 in
theorem bkt_runC (cf : ByteArray → (Nat → Bool) × Bool) (hcf : ClassOk cf) (e : Nat → Addr) (cap : Nat) (lg : Int) (w : World) (he : Es w w.heap.size e)   (hlg : lg = 2 ∨ lg = 3 ∨ lg = 4) :
  Calls Tryz.prog 75 #[.slice none 0 cap, .int .i64 0, .int .i64 lg] w (BkPost (brkR cf (ofBys ([] : List Int)) (decide (lg = 2)) 0) e 0 lg w) := by
 have HE := Lib.hid he
 have HSD : Hid (Sl w (.slice none 0 cap) ([] : List Int)) := Lib.hid (⟨fun i => by simp, by simp, Or.inl ⟨rfl, _, _, rfl⟩⟩)
 have HCF := Lib.hid hcf
 have HH : ∀ w, Hid (Calls Tryz.prog 87 #[.int .i64 lg] w fun e w' => e = .returned (.bool true) ∧ w = w') := fun w => Lib.hid (hasB_any lg w hlg)
 have hsb : (ofBys ([] : List Int)).size + 0 ≤ 140737488351232 := by simp [ofBys_size]
 have hld : ([] : List Int).length ≤ 140737488351232 := by simp
 clear he hlg hcf
 go_enter Tryz.func75, Tryz.ntmps75
 go_wp2_with fail
 refine (HH _).out.mono ?_
 rintro e' w' ⟨rfl, rfl⟩
 go_wp2_with fail
 have HSA := Lib.hid (HSD.out.below (((Below.refl w.heap.size w).alloc (Nat.le_refl _) (.cells #[.int .u64 0, .int .u64 0, .int .u64 0, .int .u64 0] 54)).alloc (by simp) (.cells #[.pointer none, .int .i64 0, .int .i64 lg] 176)))
 refine (cnew_any _ ([] : List Int) _ HSA.out).mono ?_
 rintro e' w' ⟨rfl, rfl⟩
 go_wp2_with fail
 obtain ⟨V, hV⟩ : ∃ V, V = (((w.alloc (.cells #[.int .u64 0, .int .u64 0, .int .u64 0, .int .u64 0] 54)).alloc (.cells #[.pointer (some ⟨w.heap.size + 1 + 1, 0, none⟩), .int .i64 0, .int .i64 lg] 176)).alloc (.cells #[.string (ofBys ([] : List Int)), .int .i64 0] 159)) := ⟨_, rfl⟩
 rw [← hV]
 have HBV : Hid (Below (w.heap.size + 1) (w.alloc (.cells #[.int .u64 0, .int .u64 0, .int .u64 0, .int .u64 0] 54)) V) := Lib.hid (by rw [hV]; exact ((Below.refl _ _).alloc (by simp) _).alloc (by simp) _)
 have HBW : Hid (Below w.heap.size w V) := Lib.hid (((Below.refl _ _).alloc (Nat.le_refl _) _).trans (HBV.out.mono (Nat.le_succ _)))
 have hvz : V.heap.size = w.heap.size + 1 + 1 + 1 := by rw [hV]; simp
 have HR : Hid (Rdr V (w.heap.size + 1) (w.heap.size + 1 + 1) (ofBys ([] : List Int)) 0 0 lg) := by
  refine Lib.hid ⟨?_, ⟨?_, by omega, by omega⟩, by omega, by omega⟩
  ·rw [hV, Below.heap_alloc _ _ _ (by simp)]
   have := alloc_last (w.alloc (.cells #[.int .u64 0, .int .u64 0, .int .u64 0, .int .u64 0] 54)) (.cells #[.pointer (some ⟨w.heap.size + 1 + 1, 0, none⟩), .int .i64 0, .int .i64 lg] 176)
   simpa using this
  ·rw [hV]
   have := alloc_last ((w.alloc (.cells #[.int .u64 0, .int .u64 0, .int .u64 0, .int .u64 0] 54)).alloc (.cells #[.pointer (some ⟨w.heap.size + 1 + 1, 0, none⟩), .int .i64 0, .int .i64 lg] 176)) (.cells #[.string (ofBys ([] : List Int)), .int .i64 0] 159)
   simpa using this
 have HEV : Hid (Es V (w.heap.size + 1 + 1) e) := Lib.hid ⟨(HE.out.below HBW.out).var, by have := HE.out.low; omega, by omega⟩
 clear hV
 have HBK := Lib.hid (brk_any cf HCF.out e (w.heap.size + 1) (w.heap.size + 1 + 1) (ofBys ([] : List Int)) 0 0 lg (by omega) V HEV.out HR.out)
 have HG : ∀ w', Below (w.heap.size + 1) (w.alloc (.cells #[.int .u64 0, .int .u64 0, .int .u64 0, .int .u64 0] 54)) w' → w'.heap[w.heap.size]? = some (.cells #[.int .u64 0, .int .u64 0, .int .u64 0, .int .u64 0] 54) := fun w' hb => (hb.block _ (Nat.lt_succ_self _)).trans (alloc_last w _)
 have HGH := Lib.hid HG
 clear HG
 cases hbr : brkR cf (ofBys ([] : List Int)) (decide (lg = 2)) 0 with
 | bad c pos =>
  rw [hbr] at HBK
  have HBR := Lib.hid hbr
  clear hbr
  refine HBK.out.mono ?_
  rintro e' w1 ⟨v, k', rfl, hm, her⟩
  have HB1 : Hid (Below (w.heap.size + 1) (w.alloc (.cells #[.int .u64 0, .int .u64 0, .int .u64 0, .int .u64 0] 54)) w1) := Lib.hid (HBV.out.trans (hm.1.mono (by omega)))
  have HER := Lib.hid her
  obtain ⟨kk, rfl⟩ := her.iface
  obtain ⟨⟨c0, c1, c2, c3⟩, ⟨g0, g1, g2, g3⟩, hgz⟩ := cells4 (HGH.out w1 HB1.out)
  clear hm her
  unfold SV
  go_wp2
  refine bodyPost_ret (by simp [results, Tryz.results75, go_sem, c0, c1, c2, c3, hgz]; rfl) rfl ?_
  rw [HBR.out]
  refine ⟨_, by unfold SV; rw [item_no.1, item_no.2.1, item_no.2.2.1, item_no.2.2.2], ErrS.lower (ErrS.below (ErrS.set (ErrS.set (ErrS.set (ErrS.set HER.out w.heap.size 0 _ (by omega)) w.heap.size 1 _ (by omega)) w.heap.size 2 _ (by omega)) w.heap.size 3 _ (by omega)) ((Below.refl _ _).alloc (Nat.le_refl _) _)) (by omega), ?_⟩
  exact (((((((Below.refl w.heap.size w).alloc (Nat.le_refl _) _).trans (HB1.out.mono (Nat.le_succ _))).setCell (p := ⟨w.heap.size, 0, none⟩) (Nat.le_refl _) _).setCell (p := ⟨w.heap.size, 1, none⟩) (Nat.le_refl _) _).setCell (p := ⟨w.heap.size, 2, none⟩) (Nat.le_refl _) _).setCell (p := ⟨w.heap.size, 3, none⟩) (Nat.le_refl _) _).alloc (by simp; omega) _
 | ok p nx =>
  rw [hbr] at HBK
  have HBR := Lib.hid hbr
  clear hbr
  refine HBK.out.mono ?_
  rintro e' w1 ⟨rfl, hm⟩
  have HB1 : Hid (Below (w.heap.size + 1) (w.alloc (.cells #[.int .u64 0, .int .u64 0, .int .u64 0, .int .u64 0] 54)) w1) := Lib.hid (HBV.out.trans (hm.1.mono (by omega)))
  have HR1 := Lib.hid (HR.out.mv hm)
  have hw1 : w.heap.size + 1 + 1 < w1.heap.size := HR1.out.lt.2
  clear hm
  unfold SV
  go_wp2_with fail
  obtain ⟨w2, hV⟩ : ∃ V, V = w1.alloc (.cells #[.int .u64 (sw p 0 : Nat), .int .u64 (sw p 1 : Nat), .int .u64 (sw p 2 : Nat), .int .u64 (sw p 3 : Nat)] 54) := ⟨_, rfl⟩
  rw [← hV]
  have HS0 : Hid (Below w.heap.size w w2 ∧ (∃ a b c d, w2.heap[w.heap.size]? = some (.cells #[a, b, c, d] 54)) ∧ Rdr w2 (w.heap.size + 1) (w.heap.size + 1 + 1) (ofBys ([] : List Int)) nx 0 lg ∧ w2.heap[w1.heap.size]? = some (.cells #[.int .u64 (sw p 0 : Nat), .int .u64 (sw p 1 : Nat), .int .u64 (sw p 2 : Nat), .int .u64 (sw p 3 : Nat)] 54)) := by
   refine Lib.hid ⟨?_, ⟨_, _, _, _, HGH.out w2 ?_⟩, ?_, ?_⟩
   ·rw [hV]; exact (((Below.refl _ _).alloc (Nat.le_refl _) _).trans (HB1.out.mono (Nat.le_succ _))).alloc (by omega) _
   ·rw [hV]; exact HB1.out.alloc (by omega) _
   ·rw [hV]; exact HR1.out.mv (Mv.below HR1.out.2.1 ((Below.refl _ _).alloc (Nat.le_refl _) _))
   ·rw [hV]; exact alloc_last _ _
  clear hV
  refine Reg.wp_region_vals (fun X => Below w.heap.size w X ∧ (∃ a b c d, X.heap[w.heap.size]? = some (.cells #[a, b, c, d] 54)) ∧ Rdr X (w.heap.size + 1) (w.heap.size + 1 + 1) (ofBys ([] : List Int)) nx 0 lg ∧ X.heap[w1.heap.size]? = some (.cells #[.int .u64 (sw p 0 : Nat), .int .u64 (sw p 1 : Nat), .int .u64 (sw p 2 : Nat), .int .u64 (sw p 3 : Nat)] 54)) (fun j => ([some (.agg #[.int .u64 (sw p 0 : Nat), .int .u64 (sw p 1 : Nat), .int .u64 (sw p 2 : Nat), .int .u64 (sw p 3 : Nat)]), some (.pointer (some ⟨w.heap.size + 1, 0, none⟩)), some (.int .i64 (nx : Nat)), none, some (.int .i64 (nx : Nat)), some (.nilIface)] : List (Option Value)).getD j none) (fun j _ X => j = 3 → X.heap[w.heap.size]? = some (.cells #[.int .u64 (sw p 0 : Nat), .int .u64 (sw p 1 : Nat), .int .u64 (sw p 2 : Nat), .int .u64 (sw p 3 : Nat)] 54)) (by kernel_rfl) (by kernel_rfl) (by kernel_rfl) (by kernel_rfl) ?rs0 ?rsE ?rsZ
  case rs0 => exact ⟨HS0.out.1.drew, HS0.out.2.1, HS0.out.2.2.1, HS0.out.2.2.2⟩
  case rsE =>
   refine Reg.EachV.plain rfl (fun T X hS hk K hK => ?_) ?_
   ·skip
    have g10 := hk.old 10 (by kernel_rfl) rfl
    obtain ⟨⟨y0, y1, y2, y3⟩, _, _⟩ := cells4 hS.2.2.2
    have hK := hK _ X hS (Reg.Is.of_val rfl) (fun _ _ _ h => h)
    clear hk
    go_simp
    exact hK
   refine Reg.EachV.plain rfl (fun T X hS hk K hK => ?_) ?_
   ·skip
    have g9 := hk.old 9 (by kernel_rfl) rfl
    have hK := hK _ X hS (Reg.Is.of_val rfl) (fun _ _ _ h => h)
    clear hk
    go_simp
    exact hK
   refine Reg.EachV.plain rfl (fun T X hS hk K hK => ?_) ?_
   ·skip
    have g52 := hk.val 1 52 (by kernel_rfl) (by kernel_rfl) rfl
    have hpl := place_anyZ (w.heap.size + 1) (w.heap.size + 1 + 1) (ofBys ([] : List Int)) nx lg X hS.2.2.1
    clear hk
    go_simp
    refine hpl.mono ?_
    rintro e' w3 ⟨rfl, hm⟩
    have hl := hS.2.2.1.lt
    have hgl := lt_blkB hS.2.2.2
    obtain ⟨a, b, c, d, hg⟩ := hS.2.1
    have hgz := lt_blkB hg
    exact hK _ _ ⟨hS.1.trans (hm.1.mono (by omega)), ⟨a, b, c, d, (hm.2.2 _ hgz (by omega)).trans hg⟩, hS.2.2.1.mv hm, (hm.2.2 _ hgl (by omega)).trans hS.2.2.2⟩ (Reg.Is.of_val (by rfl)) (fun j x _ h3 hj => (hm.2.2 _ hgz (by omega)).trans (h3 hj))
   refine Reg.EachV.plain rfl (fun T X hS hk K hK => ?_) ?_
   ·skip
    have g6 := hk.old 6 (by kernel_rfl) rfl
    have g51 := hk.val 0 51 (by kernel_rfl) (by kernel_rfl) rfl
    obtain ⟨a, b, c, d, hg⟩ := hS.2.1
    obtain ⟨_, ⟨f0, f1, f2, f3⟩, hgz⟩ := cells4 hg
    obtain ⟨⟨z0, z1, z2, z3⟩, _, _⟩ := cells4 hg
    have hp := blk_putB p hg
    clear hk
    go_simp
    refine hK undef _ ⟨(((hS.1.setCell (p := ⟨w.heap.size, 0, none⟩) (Nat.le_refl _) _).setCell (p := ⟨w.heap.size, 1, none⟩) (Nat.le_refl _) _).setCell (p := ⟨w.heap.size, 2, none⟩) (Nat.le_refl _) _).setCell (p := ⟨w.heap.size, 3, none⟩) (Nat.le_refl _) _, ⟨_, _, _, _, hp⟩, (((hS.2.2.1.set w.heap.size 0 _ (by omega) (by omega)).set w.heap.size 1 _ (by omega) (by omega)).set w.heap.size 2 _ (by omega) (by omega)).set w.heap.size 3 _ (by omega) (by omega), ?_⟩ (Reg.Is.of_prop rfl fun _ => hp) (fun _ _ _ _ _ => hp)
    rw [Below.heap_setCell _ _ _ _ (by simp; omega), Below.heap_setCell _ _ _ _ (by simp; omega), Below.heap_setCell _ _ _ _ (by simp; omega), Below.heap_setCell _ _ _ _ (by simp; omega)]
    exact hS.2.2.2
   refine Reg.EachV.plain rfl (fun T X hS hk K hK => ?_) ?_
   ·skip
    have g53 := hk.val 2 53 (by kernel_rfl) (by kernel_rfl) rfl
    have hK := hK _ X hS (Reg.Is.of_val rfl) (fun _ _ _ h => h)
    clear hk
    go_simp
    exact hK
   refine Reg.EachV.plain rfl (fun T X hS hk K hK => ?_) ?_
   ·skip
    have hK := hK _ X hS (Reg.Is.of_val rfl) (fun _ _ _ h => h)
    clear hk
    go_simp
    exact hK
   exact Reg.EachV.nil
  case rsZ =>
   intro u w1 hS hI
   have e0 : u 0 = .agg #[.int .u64 (sw p 0 : Nat), .int .u64 (sw p 1 : Nat), .int .u64 (sw p 2 : Nat), .int .u64 (sw p 3 : Nat)] := (hI 0 (by decide)).val rfl
   have e1 : u 1 = .pointer (some ⟨w.heap.size + 1, 0, none⟩) := (hI 1 (by decide)).val rfl
   have e2 : u 2 = .int .i64 (nx : Nat) := (hI 2 (by decide)).val rfl
   have e3 := (hI 3 (by decide)).prop rfl
   have e4 : u 4 = .int .i64 (nx : Nat) := (hI 4 (by decide)).val rfl
   have e5 : u 5 = .nilIface := (hI 5 (by decide)).val rfl
   clear hI
   simp only [Reg.putAll, Act.put, List.setIfInBounds_toArray, List.set_cons_succ, List.set_cons_zero, Nat.zero_add, Nat.reduceAdd, e0, e1, e2, e4, e5]
   clear e0 e1 e2 e4 e5
   have hg := e3 rfl
   obtain ⟨⟨c0, c1, c2, c3⟩, _, _⟩ := cells4 hg
   have HBF := Lib.hid hS.1
   clear e3 hS
   go_wp2
   exact bodyPost_ret (by simp [results, Tryz.results75, go_sem, c0, c1, c2, c3]; rfl) rfl (by rw [HBR.out]; exact ⟨by rw [Nat.zero_add]; rfl, HBF.out⟩)
set_option maxHeartbeats 16000000 in
theorem bkt_runD (cf : ByteArray → (Nat → Bool) × Bool) (hcf : ClassOk cf) (e : Nat → Addr) (ad : Addr) (cap : Nat) (lg : Int) (w : World) (he : Es w w.heap.size e)   (hlg : lg = 2 ∨ lg = 3 ∨ lg = 4) :
  Calls Tryz.prog 75 #[.slice (some ad) 0 cap, .int .i64 0, .int .i64 lg] w (BkPost (brkR cf (ofBys ([] : List Int)) (decide (lg = 2)) 0) e 0 lg w) := by
 have HE := Lib.hid he
 have HSD : Hid (Sl w (.slice (some ad) 0 cap) ([] : List Int)) := Lib.hid (⟨fun i => by simp, by simp, Or.inl ⟨rfl, _, _, rfl⟩⟩)
 have HCF := Lib.hid hcf
 have HH : ∀ w, Hid (Calls Tryz.prog 87 #[.int .i64 lg] w fun e w' => e = .returned (.bool true) ∧ w = w') := fun w => Lib.hid (hasB_any lg w hlg)
 have hsb : (ofBys ([] : List Int)).size + 0 ≤ 140737488351232 := by simp [ofBys_size]
 have hld : ([] : List Int).length ≤ 140737488351232 := by simp
 clear he hlg hcf
 go_enter Tryz.func75, Tryz.ntmps75
 go_wp2_with fail
 refine (HH _).out.mono ?_
 rintro e' w' ⟨rfl, rfl⟩
 go_wp2_with fail
 have HSA := Lib.hid (HSD.out.below (((Below.refl w.heap.size w).alloc (Nat.le_refl _) (.cells #[.int .u64 0, .int .u64 0, .int .u64 0, .int .u64 0] 54)).alloc (by simp) (.cells #[.pointer none, .int .i64 0, .int .i64 lg] 176)))
 refine (cnew_any _ ([] : List Int) _ HSA.out).mono ?_
 rintro e' w' ⟨rfl, rfl⟩
 go_wp2_with fail
 obtain ⟨V, hV⟩ : ∃ V, V = (((w.alloc (.cells #[.int .u64 0, .int .u64 0, .int .u64 0, .int .u64 0] 54)).alloc (.cells #[.pointer (some ⟨w.heap.size + 1 + 1, 0, none⟩), .int .i64 0, .int .i64 lg] 176)).alloc (.cells #[.string (ofBys ([] : List Int)), .int .i64 0] 159)) := ⟨_, rfl⟩
 rw [← hV]
 have HBV : Hid (Below (w.heap.size + 1) (w.alloc (.cells #[.int .u64 0, .int .u64 0, .int .u64 0, .int .u64 0] 54)) V) := Lib.hid (by rw [hV]; exact ((Below.refl _ _).alloc (by simp) _).alloc (by simp) _)
 have HBW : Hid (Below w.heap.size w V) := Lib.hid (((Below.refl _ _).alloc (Nat.le_refl _) _).trans (HBV.out.mono (Nat.le_succ _)))
 have hvz : V.heap.size = w.heap.size + 1 + 1 + 1 := by rw [hV]; simp
 have HR : Hid (Rdr V (w.heap.size + 1) (w.heap.size + 1 + 1) (ofBys ([] : List Int)) 0 0 lg) := by
  refine Lib.hid ⟨?_, ⟨?_, by omega, by omega⟩, by omega, by omega⟩
  ·rw [hV, Below.heap_alloc _ _ _ (by simp)]
   have := alloc_last (w.alloc (.cells #[.int .u64 0, .int .u64 0, .int .u64 0, .int .u64 0] 54)) (.cells #[.pointer (some ⟨w.heap.size + 1 + 1, 0, none⟩), .int .i64 0, .int .i64 lg] 176)
   simpa using this
  ·rw [hV]
   have := alloc_last ((w.alloc (.cells #[.int .u64 0, .int .u64 0, .int .u64 0, .int .u64 0] 54)).alloc (.cells #[.pointer (some ⟨w.heap.size + 1 + 1, 0, none⟩), .int .i64 0, .int .i64 lg] 176)) (.cells #[.string (ofBys ([] : List Int)), .int .i64 0] 159)
   simpa using this
 have HEV : Hid (Es V (w.heap.size + 1 + 1) e) := Lib.hid ⟨(HE.out.below HBW.out).var, by have := HE.out.low; omega, by omega⟩
 clear hV
 have HBK := Lib.hid (brk_any cf HCF.out e (w.heap.size + 1) (w.heap.size + 1 + 1) (ofBys ([] : List Int)) 0 0 lg (by omega) V HEV.out HR.out)
 have HG : ∀ w', Below (w.heap.size + 1) (w.alloc (.cells #[.int .u64 0, .int .u64 0, .int .u64 0, .int .u64 0] 54)) w' → w'.heap[w.heap.size]? = some (.cells #[.int .u64 0, .int .u64 0, .int .u64 0, .int .u64 0] 54) := fun w' hb => (hb.block _ (Nat.lt_succ_self _)).trans (alloc_last w _)
 have HGH := Lib.hid HG
 clear HG
 cases hbr : brkR cf (ofBys ([] : List Int)) (decide (lg = 2)) 0 with
 | bad c pos =>
  rw [hbr] at HBK
  have HBR := Lib.hid hbr
  clear hbr
  refine HBK.out.mono ?_
  rintro e' w1 ⟨v, k', rfl, hm, her⟩
  have HB1 : Hid (Below (w.heap.size + 1) (w.alloc (.cells #[.int .u64 0, .int .u64 0, .int .u64 0, .int .u64 0] 54)) w1) := Lib.hid (HBV.out.trans (hm.1.mono (by omega)))
  have HER := Lib.hid her
  obtain ⟨kk, rfl⟩ := her.iface
  obtain ⟨⟨c0, c1, c2, c3⟩, ⟨g0, g1, g2, g3⟩, hgz⟩ := cells4 (HGH.out w1 HB1.out)
  clear hm her
  unfold SV
  go_wp2
  refine bodyPost_ret (by simp [results, Tryz.results75, go_sem, c0, c1, c2, c3, hgz]; rfl) rfl ?_
  rw [HBR.out]
  refine ⟨_, by unfold SV; rw [item_no.1, item_no.2.1, item_no.2.2.1, item_no.2.2.2], ErrS.lower (ErrS.below (ErrS.set (ErrS.set (ErrS.set (ErrS.set HER.out w.heap.size 0 _ (by omega)) w.heap.size 1 _ (by omega)) w.heap.size 2 _ (by omega)) w.heap.size 3 _ (by omega)) ((Below.refl _ _).alloc (Nat.le_refl _) _)) (by omega), ?_⟩
  exact (((((((Below.refl w.heap.size w).alloc (Nat.le_refl _) _).trans (HB1.out.mono (Nat.le_succ _))).setCell (p := ⟨w.heap.size, 0, none⟩) (Nat.le_refl _) _).setCell (p := ⟨w.heap.size, 1, none⟩) (Nat.le_refl _) _).setCell (p := ⟨w.heap.size, 2, none⟩) (Nat.le_refl _) _).setCell (p := ⟨w.heap.size, 3, none⟩) (Nat.le_refl _) _).alloc (by simp; omega) _
 | ok p nx =>
  rw [hbr] at HBK
  have HBR := Lib.hid hbr
  clear hbr
  refine HBK.out.mono ?_
  rintro e' w1 ⟨rfl, hm⟩
  have HB1 : Hid (Below (w.heap.size + 1) (w.alloc (.cells #[.int .u64 0, .int .u64 0, .int .u64 0, .int .u64 0] 54)) w1) := Lib.hid (HBV.out.trans (hm.1.mono (by omega)))
  have HR1 := Lib.hid (HR.out.mv hm)
  have hw1 : w.heap.size + 1 + 1 < w1.heap.size := HR1.out.lt.2
  clear hm
  unfold SV
  go_wp2_with fail
  obtain ⟨w2, hV⟩ : ∃ V, V = w1.alloc (.cells #[.int .u64 (sw p 0 : Nat), .int .u64 (sw p 1 : Nat), .int .u64 (sw p 2 : Nat), .int .u64 (sw p 3 : Nat)] 54) := ⟨_, rfl⟩
  rw [← hV]
  have HS0 : Hid (Below w.heap.size w w2 ∧ (∃ a b c d, w2.heap[w.heap.size]? = some (.cells #[a, b, c, d] 54)) ∧ Rdr w2 (w.heap.size + 1) (w.heap.size + 1 + 1) (ofBys ([] : List Int)) nx 0 lg ∧ w2.heap[w1.heap.size]? = some (.cells #[.int .u64 (sw p 0 : Nat), .int .u64 (sw p 1 : Nat), .int .u64 (sw p 2 : Nat), .int .u64 (sw p 3 : Nat)] 54)) := by
   refine Lib.hid ⟨?_, ⟨_, _, _, _, HGH.out w2 ?_⟩, ?_, ?_⟩
   ·rw [hV]; exact (((Below.refl _ _).alloc (Nat.le_refl _) _).trans (HB1.out.mono (Nat.le_succ _))).alloc (by omega) _
   ·rw [hV]; exact HB1.out.alloc (by omega) _
   ·rw [hV]; exact HR1.out.mv (Mv.below HR1.out.2.1 ((Below.refl _ _).alloc (Nat.le_refl _) _))
   ·rw [hV]; exact alloc_last _ _
  clear hV
  refine Reg.wp_region_vals (fun X => Below w.heap.size w X ∧ (∃ a b c d, X.heap[w.heap.size]? = some (.cells #[a, b, c, d] 54)) ∧ Rdr X (w.heap.size + 1) (w.heap.size + 1 + 1) (ofBys ([] : List Int)) nx 0 lg ∧ X.heap[w1.heap.size]? = some (.cells #[.int .u64 (sw p 0 : Nat), .int .u64 (sw p 1 : Nat), .int .u64 (sw p 2 : Nat), .int .u64 (sw p 3 : Nat)] 54)) (fun j => ([some (.agg #[.int .u64 (sw p 0 : Nat), .int .u64 (sw p 1 : Nat), .int .u64 (sw p 2 : Nat), .int .u64 (sw p 3 : Nat)]), some (.pointer (some ⟨w.heap.size + 1, 0, none⟩)), some (.int .i64 (nx : Nat)), none, some (.int .i64 (nx : Nat)), some (.nilIface)] : List (Option Value)).getD j none) (fun j _ X => j = 3 → X.heap[w.heap.size]? = some (.cells #[.int .u64 (sw p 0 : Nat), .int .u64 (sw p 1 : Nat), .int .u64 (sw p 2 : Nat), .int .u64 (sw p 3 : Nat)] 54)) (by kernel_rfl) (by kernel_rfl) (by kernel_rfl) (by kernel_rfl) ?rs0 ?rsE ?rsZ
  case rs0 => exact ⟨HS0.out.1.drew, HS0.out.2.1, HS0.out.2.2.1, HS0.out.2.2.2⟩
  case rsE =>
   refine Reg.EachV.plain rfl (fun T X hS hk K hK => ?_) ?_
   ·skip
    have g10 := hk.old 10 (by kernel_rfl) rfl
    obtain ⟨⟨y0, y1, y2, y3⟩, _, _⟩ := cells4 hS.2.2.2
    have hK := hK _ X hS (Reg.Is.of_val rfl) (fun _ _ _ h => h)
    clear hk
    go_simp
    exact hK
   refine Reg.EachV.plain rfl (fun T X hS hk K hK => ?_) ?_
   ·skip
    have g9 := hk.old 9 (by kernel_rfl) rfl
    have hK := hK _ X hS (Reg.Is.of_val rfl) (fun _ _ _ h => h)
    clear hk
    go_simp
    exact hK
   refine Reg.EachV.plain rfl (fun T X hS hk K hK => ?_) ?_
   ·skip
    have g52 := hk.val 1 52 (by kernel_rfl) (by kernel_rfl) rfl
    have hpl := place_anyZ (w.heap.size + 1) (w.heap.size + 1 + 1) (ofBys ([] : List Int)) nx lg X hS.2.2.1
    clear hk
    go_simp
    refine hpl.mono ?_
    rintro e' w3 ⟨rfl, hm⟩
    have hl := hS.2.2.1.lt
    have hgl := lt_blkB hS.2.2.2
    obtain ⟨a, b, c, d, hg⟩ := hS.2.1
    have hgz := lt_blkB hg
    exact hK _ _ ⟨hS.1.trans (hm.1.mono (by omega)), ⟨a, b, c, d, (hm.2.2 _ hgz (by omega)).trans hg⟩, hS.2.2.1.mv hm, (hm.2.2 _ hgl (by omega)).trans hS.2.2.2⟩ (Reg.Is.of_val (by rfl)) (fun j x _ h3 hj => (hm.2.2 _ hgz (by omega)).trans (h3 hj))
   refine Reg.EachV.plain rfl (fun T X hS hk K hK => ?_) ?_
   ·skip
    have g6 := hk.old 6 (by kernel_rfl) rfl
    have g51 := hk.val 0 51 (by kernel_rfl) (by kernel_rfl) rfl
    obtain ⟨a, b, c, d, hg⟩ := hS.2.1
    obtain ⟨_, ⟨f0, f1, f2, f3⟩, hgz⟩ := cells4 hg
    obtain ⟨⟨z0, z1, z2, z3⟩, _, _⟩ := cells4 hg
    have hp := blk_putB p hg
    clear hk
    go_simp
    refine hK undef _ ⟨(((hS.1.setCell (p := ⟨w.heap.size, 0, none⟩) (Nat.le_refl _) _).setCell (p := ⟨w.heap.size, 1, none⟩) (Nat.le_refl _) _).setCell (p := ⟨w.heap.size, 2, none⟩) (Nat.le_refl _) _).setCell (p := ⟨w.heap.size, 3, none⟩) (Nat.le_refl _) _, ⟨_, _, _, _, hp⟩, (((hS.2.2.1.set w.heap.size 0 _ (by omega) (by omega)).set w.heap.size 1 _ (by omega) (by omega)).set w.heap.size 2 _ (by omega) (by omega)).set w.heap.size 3 _ (by omega) (by omega), ?_⟩ (Reg.Is.of_prop rfl fun _ => hp) (fun _ _ _ _ _ => hp)
    rw [Below.heap_setCell _ _ _ _ (by simp; omega), Below.heap_setCell _ _ _ _ (by simp; omega), Below.heap_setCell _ _ _ _ (by simp; omega), Below.heap_setCell _ _ _ _ (by simp; omega)]
    exact hS.2.2.2
   refine Reg.EachV.plain rfl (fun T X hS hk K hK => ?_) ?_
   ·skip
    have g53 := hk.val 2 53 (by kernel_rfl) (by kernel_rfl) rfl
    have hK := hK _ X hS (Reg.Is.of_val rfl) (fun _ _ _ h => h)
    clear hk
    go_simp
    exact hK
   refine Reg.EachV.plain rfl (fun T X hS hk K hK => ?_) ?_
   ·skip
    have hK := hK _ X hS (Reg.Is.of_val rfl) (fun _ _ _ h => h)
    clear hk
    go_simp
    exact hK
   exact Reg.EachV.nil
  case rsZ =>
   intro u w1 hS hI
   have e0 : u 0 = .agg #[.int .u64 (sw p 0 : Nat), .int .u64 (sw p 1 : Nat), .int .u64 (sw p 2 : Nat), .int .u64 (sw p 3 : Nat)] := (hI 0 (by decide)).val rfl
   have e1 : u 1 = .pointer (some ⟨w.heap.size + 1, 0, none⟩) := (hI 1 (by decide)).val rfl
   have e2 : u 2 = .int .i64 (nx : Nat) := (hI 2 (by decide)).val rfl
   have e3 := (hI 3 (by decide)).prop rfl
   have e4 : u 4 = .int .i64 (nx : Nat) := (hI 4 (by decide)).val rfl
   have e5 : u 5 = .nilIface := (hI 5 (by decide)).val rfl
   clear hI
   simp only [Reg.putAll, Act.put, List.setIfInBounds_toArray, List.set_cons_succ, List.set_cons_zero, Nat.zero_add, Nat.reduceAdd, e0, e1, e2, e4, e5]
   clear e0 e1 e2 e4 e5
   have hg := e3 rfl
   obtain ⟨⟨c0, c1, c2, c3⟩, _, _⟩ := cells4 hg
   have HBF := Lib.hid hS.1
   clear e3 hS
   go_wp2
   exact bodyPost_ret (by simp [results, Tryz.results75, go_sem, c0, c1, c2, c3]; rfl) rfl (by rw [HBR.out]; exact ⟨by rw [Nat.zero_add]; rfl, HBF.out⟩)
theorem bkt_any (cf : ByteArray → (Nat → Bool) × Bool) (hcf : ClassOk cf) (e : Nat → Addr) (v : Value) (l : List Int) (k : Nat) (lg : Int) (hb47 : l.length ≤ 140737488351232) (w : World) (he : Es w w.heap.size e) (hs : Sl w v l) (hk : k ≤ l.length) (hlg : lg = 2 ∨ lg = 3 ∨ lg = 4) :
  Calls Tryz.prog 75 #[v, .int .i64 k, .int .i64 lg] w (BkPost (brkR cf (ofBys (l.drop k)) (decide (lg = 2)) 0) e k lg w) := by
 have hs' := hs
 obtain ⟨hy, hl, ⟨rfl, ad, cap, rfl⟩ | ⟨x, o, cap, rfl, hcl, hcm, hr⟩⟩ := hs'
 ·obtain rfl : k = 0 := by simpa using hk
  cases ad with
  | none => exact bkt_runC cf hcf e cap lg w he hlg
  | some ad => exact bkt_runD cf hcf e ad cap lg w he hlg
 ·by_cases hc : k < cap
  ·exact bkt_runA cf hcf e x o cap l k lg hb47 w he hs hk hc hcl hcm hr hlg
  ·obtain rfl : k = cap := by omega
   have hlk : l.length = k := by omega
   rw [hlk] at hs ⊢
   exact bkt_runB cf hcf e x o l k lg hb47 w he hs hlk hlg
end Go.Proofs.YtnpkcllbpnmabaaGreatDoor
