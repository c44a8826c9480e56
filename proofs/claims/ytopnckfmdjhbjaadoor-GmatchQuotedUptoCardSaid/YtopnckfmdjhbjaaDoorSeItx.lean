/- The reader's item, every way (gen_itx.py). -/
import Derived.Test.YtopnckfmdjhbjaaDoorSeErr
import Derived.Test.YtopnckfmdjhbjaaDoorSeCn
namespace Go.Proofs.YtopnckfmdjhbjaaDoor
open Go.RowKit

/-- What an item is: wrong at a place; a class; a byte; and the place behind it. -/
inductive IR where
  | bad (pos : Nat)
  | cls (p : Nat → Bool) (next : Nat)
  | byt (c : Int) (next : Nat)
/-- The item at place k, in the language of patterns or not; cf: the classes by their names. -/
def itemR (cf : ByteArray → (Nat → Bool) × Bool) (s : ByteArray) (glob : Bool) (k : Nat) : IR :=
  if atB s k = 91 ∧ atB s (k + 1) = 58 then
    match cnE s (s.size - (k + 2)) (k + 2) with
    | none => .bad k
    | some e => if (cf (s.extract (k + 2) e)).2 = true then .cls (cf (s.extract (k + 2) e)).1 (e + 2) else .bad k
  else if atB s k = 91 ∧ (atB s (k + 1) = 46 ∨ atB s (k + 1) = 61) then .bad k
  else if glob = true ∧ atB s k = 92 then (if k + 1 < s.size then .byt (atB s (k + 1)) (k + 2) else .bad (k + 1))
  else if k < s.size then .byt (atB s k) (k + 1) else .bad k
/-- The classes by their names: what Class and the reference's Class tell. -/
structure ClassOk (cf : ByteArray → (Nat → Bool) × Bool) : Prop where
  no : ∀ nm, (cf nm).2 = false → ∀ c, c < 256 → (cf nm).1 c = false
  empty : (cf ⟨#[]⟩).2 = false
  prog : ∀ nm w, Calls Tryd.prog 117 #[.string nm] w fun e w' => e = .returned (.tuple #[SV (cf nm).1, .bool (cf nm).2]) ∧ Below w.heap.size w w'
theorem ErrS.set {w : World} {B : Nat} {e : Nat → Addr} {lg : Int} {c : Nat} {p : Int} {v : Value} (h : ErrS w B e lg c p v) (g i : Nat) (x : Value) (hg : g < B) : ErrS (w.setCell ⟨g, i, none⟩ x) B e lg c p v :=
  h.kept (by simp) fun j hj _ => Below.heap_setCell _ _ _ _ (by simp; omega)

set_option maxRecDepth 100000 in
set_option maxHeartbeats 8000000 in
theorem itx_byte (cf : ByteArray → (Nat → Bool) × Bool) (hcf : ClassOk cf) (e : Nat → Addr) (rb cb : Nat) (s : ByteArray) (k ah : Nat) (lg : Int) (w : World) (he : Es w cb e) (h : Rdr w rb cb s k ah lg) (hlg : ¬ lg = 2) (hk : k < s.size) (n1 : ¬ (atB s k = 91 ∧ atB s (k + 1) = 58)) (n2 : ¬ (atB s k = 91 ∧ atB s (k + 1) = 46)) (n3 : ¬ (atB s k = 91 ∧ atB s (k + 1) = 61)) :
    Calls Tryd.prog 95 #[.pointer (some ⟨rb, 0, none⟩)] w fun x w' => x = .returned (.tuple #[IV (ah + k) false noP (atB s k), .nilIface]) ∧ Mv cb s (k + 1) w w' := by
  have HH := Lib.hid h
  have HE := Lib.hid he
  have HCF := Lib.hid hcf
  have HP : Hid (∀ (j : Nat) (w' : World), Rdr w' rb cb s j ah lg → Calls Tryd.prog 55 #[.pointer (some ⟨rb, 0, none⟩)] w' fun e w'' => e = .returned (.int .i64 (ah + j : Nat)) ∧ Mv cb s j w' w'') := Lib.hid fun j w' h' => place_any rb cb s j ah lg w' h'
  have HT58 : Hid (∀ w', Cur w' cb s k → Calls Tryd.prog 78 #[.pointer (some ⟨cb, 0, none⟩), .string ⟨#[91, 58]⟩] w' fun e w'' => e = .returned (.bool false) ∧ Mv cb s k w' w'') := Lib.hid fun w' h' => take2_no cb k s 91 58 w' h' (by decide) (by decide) n1
  have HT46 : Hid (∀ w', Cur w' cb s k → Calls Tryd.prog 78 #[.pointer (some ⟨cb, 0, none⟩), .string ⟨#[91, 46]⟩] w' fun e w'' => e = .returned (.bool false) ∧ Mv cb s k w' w'') := Lib.hid fun w' h' => take2_no cb k s 91 46 w' h' (by decide) (by decide) n2
  have HT61 : Hid (∀ w', Cur w' cb s k → Calls Tryd.prog 78 #[.pointer (some ⟨cb, 0, none⟩), .string ⟨#[91, 61]⟩] w' fun e w'' => e = .returned (.bool false) ∧ Mv cb s k w' w'') := Lib.hid fun w' h' => take2_no cb k s 91 61 w' h' (by decide) (by decide) n3
  have HN : Hid (∀ w', Cur w' cb s k → Calls Tryd.prog 119 #[.pointer (some ⟨cb, 0, none⟩)] w' fun e w'' => e = .returned (.tuple #[.int .u8 (atB s k), .bool true]) ∧ Mv cb s (k + 1) w' w'') := Lib.hid fun w' h' => by
    have := next_any cb k s w' h'
    rw [if_pos hk, decide_eq_true hk] at this
    exact this
  clear hk n1 n2 n3
  generalize atB s k = c at *
  clear h he hcf 
  go_enter Tryd.func95, Tryd.ntmps95
  go_wp2_with fail
  obtain ⟨W, hW⟩ : ∃ W, W = w.alloc (.cells #[.int .i64 0, .bool false, .int .u64 0, .int .u64 0, .int .u64 0, .int .u64 0, .int .u8 0] 139) := ⟨_, rfl⟩
  rw [← hW]
  have HMW : Hid (Mv cb s k w W) := Lib.hid (by rw [hW]; exact Mv.below HH.out.2.1 ((Below.refl _ _).alloc (Nat.le_refl _) _))
  have HG0 : Hid (W.heap[w.heap.size]? = some (.cells #[.int .i64 0, .bool false, .int .u64 0, .int .u64 0, .int .u64 0, .int .u64 0, .int .u8 0] 139)) := Lib.hid (by rw [hW]; exact alloc_last w _)
  have hsz : w.heap.size < W.heap.size := by rw [hW]; simp
  clear hW
  have hcb := HH.out.lt.2
  have HR0 := Lib.hid (HH.out.mv HMW.out)
  have HM0 := Lib.hid (Mv.refl HR0.out.2.1)
  refine (HP.out k _ HR0.out).mono ?_
  rintro e w1 ⟨rfl, hm1⟩
  have HM1 := Lib.hid (HM0.out.trans hm1)
  have HR1 := Lib.hid (HR0.out.mv HM1.out)
  obtain ⟨a10, a11, a12, a1z⟩ := HR1.out.facts
  have hz1 : w.heap.size < w1.heap.size := Nat.lt_of_lt_of_le hsz HM1.out.1.size
  clear hm1
  go_wp2_with fail
  refine (HT58.out _ HR1.out.2.1).mono ?_
  rintro e w2 ⟨rfl, hm2⟩
  have HM2 := Lib.hid (HM1.out.trans hm2)
  have HR2 := Lib.hid (HR0.out.mv HM2.out)
  obtain ⟨a20, a21, a22, a2z⟩ := HR2.out.facts
  have hz2 : w.heap.size < w2.heap.size := Nat.lt_of_lt_of_le hsz HM2.out.1.size
  clear hm2
  go_wp2_with fail
  refine (HT46.out _ HR2.out.2.1).mono ?_
  rintro e w3 ⟨rfl, hm3⟩
  have HM3 := Lib.hid (HM2.out.trans hm3)
  have HR3 := Lib.hid (HR0.out.mv HM3.out)
  obtain ⟨a30, a31, a32, a3z⟩ := HR3.out.facts
  have hz3 : w.heap.size < w3.heap.size := Nat.lt_of_lt_of_le hsz HM3.out.1.size
  clear hm3
  go_wp2_with fail
  refine (HT61.out _ HR3.out.2.1).mono ?_
  rintro e w4 ⟨rfl, hm4⟩
  have HM4 := Lib.hid (HM3.out.trans hm4)
  have HR4 := Lib.hid (HR0.out.mv HM4.out)
  obtain ⟨a40, a41, a42, a4z⟩ := HR4.out.facts
  have hz4 : w.heap.size < w4.heap.size := Nat.lt_of_lt_of_le hsz HM4.out.1.size
  clear hm4
  go_wp2_with fail
  refine (HN.out _ HR4.out.2.1).mono ?_
  rintro e w5 ⟨rfl, hm5⟩
  have HM5 := Lib.hid (HM4.out.trans hm5)
  have HR5 := Lib.hid (HR0.out.mv HM5.out)
  obtain ⟨a50, a51, a52, a5z⟩ := HR5.out.facts
  have hz5 : w.heap.size < w5.heap.size := Nat.lt_of_lt_of_le hsz HM5.out.1.size
  clear hm5
  have hg := (HM5.out.2.2 w.heap.size hsz (by omega)).trans HG0.out
  obtain ⟨⟨c0, c1, c2, c3, c4, c5, c6⟩, ⟨g0, g1, g2, g3, g4, g5, g6⟩, hgz⟩ := cells7 hg
  clear hg
  go_wp2
  refine bodyPost_ret (by simp [results, Tryd.results95, go_sem, c0, c1, c2, c3, c4, c5, c6]; rfl) rfl ⟨by unfold IV; rw [item_no.1, item_no.2.1, item_no.2.2.1, item_no.2.2.2]; rfl, (Mv.setOther (Mv.setOther (Mv.setOther (Mv.setOther (Mv.setOther (Mv.setOther (Mv.setOther (HMW.out.trans HM5.out) w.heap.size 0 _ (Nat.le_refl _) hcb) w.heap.size 1 _ (Nat.le_refl _) hcb) w.heap.size 2 _ (Nat.le_refl _) hcb) w.heap.size 3 _ (Nat.le_refl _) hcb) w.heap.size 4 _ (Nat.le_refl _) hcb) w.heap.size 5 _ (Nat.le_refl _) hcb) w.heap.size 6 _ (Nat.le_refl _) hcb)⟩
set_option maxRecDepth 100000 in
set_option maxHeartbeats 8000000 in
theorem itx_glob (cf : ByteArray → (Nat → Bool) × Bool) (hcf : ClassOk cf) (e : Nat → Addr) (rb cb : Nat) (s : ByteArray) (k ah : Nat) (lg : Int) (w : World) (he : Es w cb e) (h : Rdr w rb cb s k ah lg) (hlg : lg = 2) (hk : k < s.size) (n1 : ¬ (atB s k = 91 ∧ atB s (k + 1) = 58)) (n2 : ¬ (atB s k = 91 ∧ atB s (k + 1) = 46)) (n3 : ¬ (atB s k = 91 ∧ atB s (k + 1) = 61)) (h2 : ¬ atB s k = 92) :
    Calls Tryd.prog 95 #[.pointer (some ⟨rb, 0, none⟩)] w fun x w' => x = .returned (.tuple #[IV (ah + k) false noP (atB s k), .nilIface]) ∧ Mv cb s (k + 1) w w' := by
  have HH := Lib.hid h
  have HE := Lib.hid he
  have HCF := Lib.hid hcf
  have HP : Hid (∀ (j : Nat) (w' : World), Rdr w' rb cb s j ah lg → Calls Tryd.prog 55 #[.pointer (some ⟨rb, 0, none⟩)] w' fun e w'' => e = .returned (.int .i64 (ah + j : Nat)) ∧ Mv cb s j w' w'') := Lib.hid fun j w' h' => place_any rb cb s j ah lg w' h'
  have HT58 : Hid (∀ w', Cur w' cb s k → Calls Tryd.prog 78 #[.pointer (some ⟨cb, 0, none⟩), .string ⟨#[91, 58]⟩] w' fun e w'' => e = .returned (.bool false) ∧ Mv cb s k w' w'') := Lib.hid fun w' h' => take2_no cb k s 91 58 w' h' (by decide) (by decide) n1
  have HT46 : Hid (∀ w', Cur w' cb s k → Calls Tryd.prog 78 #[.pointer (some ⟨cb, 0, none⟩), .string ⟨#[91, 46]⟩] w' fun e w'' => e = .returned (.bool false) ∧ Mv cb s k w' w'') := Lib.hid fun w' h' => take2_no cb k s 91 46 w' h' (by decide) (by decide) n2
  have HT61 : Hid (∀ w', Cur w' cb s k → Calls Tryd.prog 78 #[.pointer (some ⟨cb, 0, none⟩), .string ⟨#[91, 61]⟩] w' fun e w'' => e = .returned (.bool false) ∧ Mv cb s k w' w'') := Lib.hid fun w' h' => take2_no cb k s 91 61 w' h' (by decide) (by decide) n3
  have HT4 : Hid (∀ w', Cur w' cb s k → Calls Tryd.prog 78 #[.pointer (some ⟨cb, 0, none⟩), .string ⟨#[92]⟩] w' fun e w'' => e = .returned (.bool false) ∧ Mv cb s k w' w'') := Lib.hid fun w' h' => take1_no cb k s 92 w' h' (by decide) h2
  have HN : Hid (∀ w', Cur w' cb s k → Calls Tryd.prog 119 #[.pointer (some ⟨cb, 0, none⟩)] w' fun e w'' => e = .returned (.tuple #[.int .u8 (atB s k), .bool true]) ∧ Mv cb s (k + 1) w' w'') := Lib.hid fun w' h' => by
    have := next_any cb k s w' h'
    rw [if_pos hk, decide_eq_true hk] at this
    exact this
  clear hk h2 n1 n2 n3
  generalize atB s k = c at *
  clear h he hcf 
  go_enter Tryd.func95, Tryd.ntmps95
  go_wp2_with fail
  obtain ⟨W, hW⟩ : ∃ W, W = w.alloc (.cells #[.int .i64 0, .bool false, .int .u64 0, .int .u64 0, .int .u64 0, .int .u64 0, .int .u8 0] 139) := ⟨_, rfl⟩
  rw [← hW]
  have HMW : Hid (Mv cb s k w W) := Lib.hid (by rw [hW]; exact Mv.below HH.out.2.1 ((Below.refl _ _).alloc (Nat.le_refl _) _))
  have HG0 : Hid (W.heap[w.heap.size]? = some (.cells #[.int .i64 0, .bool false, .int .u64 0, .int .u64 0, .int .u64 0, .int .u64 0, .int .u8 0] 139)) := Lib.hid (by rw [hW]; exact alloc_last w _)
  have hsz : w.heap.size < W.heap.size := by rw [hW]; simp
  clear hW
  have hcb := HH.out.lt.2
  have HR0 := Lib.hid (HH.out.mv HMW.out)
  have HM0 := Lib.hid (Mv.refl HR0.out.2.1)
  refine (HP.out k _ HR0.out).mono ?_
  rintro e w1 ⟨rfl, hm1⟩
  have HM1 := Lib.hid (HM0.out.trans hm1)
  have HR1 := Lib.hid (HR0.out.mv HM1.out)
  obtain ⟨a10, a11, a12, a1z⟩ := HR1.out.facts
  have hz1 : w.heap.size < w1.heap.size := Nat.lt_of_lt_of_le hsz HM1.out.1.size
  clear hm1
  go_wp2_with fail
  refine (HT58.out _ HR1.out.2.1).mono ?_
  rintro e w2 ⟨rfl, hm2⟩
  have HM2 := Lib.hid (HM1.out.trans hm2)
  have HR2 := Lib.hid (HR0.out.mv HM2.out)
  obtain ⟨a20, a21, a22, a2z⟩ := HR2.out.facts
  have hz2 : w.heap.size < w2.heap.size := Nat.lt_of_lt_of_le hsz HM2.out.1.size
  clear hm2
  go_wp2_with fail
  refine (HT46.out _ HR2.out.2.1).mono ?_
  rintro e w3 ⟨rfl, hm3⟩
  have HM3 := Lib.hid (HM2.out.trans hm3)
  have HR3 := Lib.hid (HR0.out.mv HM3.out)
  obtain ⟨a30, a31, a32, a3z⟩ := HR3.out.facts
  have hz3 : w.heap.size < w3.heap.size := Nat.lt_of_lt_of_le hsz HM3.out.1.size
  clear hm3
  go_wp2_with fail
  refine (HT61.out _ HR3.out.2.1).mono ?_
  rintro e w4 ⟨rfl, hm4⟩
  have HM4 := Lib.hid (HM3.out.trans hm4)
  have HR4 := Lib.hid (HR0.out.mv HM4.out)
  obtain ⟨a40, a41, a42, a4z⟩ := HR4.out.facts
  have hz4 : w.heap.size < w4.heap.size := Nat.lt_of_lt_of_le hsz HM4.out.1.size
  clear hm4
  go_wp2_with fail
  refine (HT4.out _ HR4.out.2.1).mono ?_
  rintro e w5 ⟨rfl, hm5⟩
  have HM5 := Lib.hid (HM4.out.trans hm5)
  have HR5 := Lib.hid (HR0.out.mv HM5.out)
  obtain ⟨a50, a51, a52, a5z⟩ := HR5.out.facts
  have hz5 : w.heap.size < w5.heap.size := Nat.lt_of_lt_of_le hsz HM5.out.1.size
  clear hm5
  go_wp2_with fail
  refine (HN.out _ HR5.out.2.1).mono ?_
  rintro e w6 ⟨rfl, hm6⟩
  have HM6 := Lib.hid (HM5.out.trans hm6)
  have HR6 := Lib.hid (HR0.out.mv HM6.out)
  obtain ⟨a60, a61, a62, a6z⟩ := HR6.out.facts
  have hz6 : w.heap.size < w6.heap.size := Nat.lt_of_lt_of_le hsz HM6.out.1.size
  clear hm6
  have hg := (HM6.out.2.2 w.heap.size hsz (by omega)).trans HG0.out
  obtain ⟨⟨c0, c1, c2, c3, c4, c5, c6⟩, ⟨g0, g1, g2, g3, g4, g5, g6⟩, hgz⟩ := cells7 hg
  clear hg
  go_wp2
  refine bodyPost_ret (by simp [results, Tryd.results95, go_sem, c0, c1, c2, c3, c4, c5, c6]; rfl) rfl ⟨by unfold IV; rw [item_no.1, item_no.2.1, item_no.2.2.1, item_no.2.2.2]; rfl, (Mv.setOther (Mv.setOther (Mv.setOther (Mv.setOther (Mv.setOther (Mv.setOther (Mv.setOther (HMW.out.trans HM6.out) w.heap.size 0 _ (Nat.le_refl _) hcb) w.heap.size 1 _ (Nat.le_refl _) hcb) w.heap.size 2 _ (Nat.le_refl _) hcb) w.heap.size 3 _ (Nat.le_refl _) hcb) w.heap.size 4 _ (Nat.le_refl _) hcb) w.heap.size 5 _ (Nat.le_refl _) hcb) w.heap.size 6 _ (Nat.le_refl _) hcb)⟩
set_option maxRecDepth 100000 in
set_option maxHeartbeats 8000000 in
theorem itx_esc (cf : ByteArray → (Nat → Bool) × Bool) (hcf : ClassOk cf) (e : Nat → Addr) (rb cb : Nat) (s : ByteArray) (k ah : Nat) (lg : Int) (w : World) (he : Es w cb e) (h : Rdr w rb cb s k ah lg) (hlg : lg = 2) (hk : (k + 1) < s.size) (h1 : atB s k = 92) :
    Calls Tryd.prog 95 #[.pointer (some ⟨rb, 0, none⟩)] w fun x w' => x = .returned (.tuple #[IV (ah + k) false noP (atB s (k + 1)), .nilIface]) ∧ Mv cb s ((k + 1) + 1) w w' := by
  have HH := Lib.hid h
  have HE := Lib.hid he
  have HCF := Lib.hid hcf
  have HP : Hid (∀ (j : Nat) (w' : World), Rdr w' rb cb s j ah lg → Calls Tryd.prog 55 #[.pointer (some ⟨rb, 0, none⟩)] w' fun e w'' => e = .returned (.int .i64 (ah + j : Nat)) ∧ Mv cb s j w' w'') := Lib.hid fun j w' h' => place_any rb cb s j ah lg w' h'
  have n1 : ¬ (atB s k = 91 ∧ atB s (k + 1) = 58) := fun h => by rw [h1] at h; exact absurd h.1 (by decide)
  have n2 : ¬ (atB s k = 91 ∧ atB s (k + 1) = 46) := fun h => by rw [h1] at h; exact absurd h.1 (by decide)
  have n3 : ¬ (atB s k = 91 ∧ atB s (k + 1) = 61) := fun h => by rw [h1] at h; exact absurd h.1 (by decide)
  have HT58 : Hid (∀ w', Cur w' cb s k → Calls Tryd.prog 78 #[.pointer (some ⟨cb, 0, none⟩), .string ⟨#[91, 58]⟩] w' fun e w'' => e = .returned (.bool false) ∧ Mv cb s k w' w'') := Lib.hid fun w' h' => take2_no cb k s 91 58 w' h' (by decide) (by decide) n1
  have HT46 : Hid (∀ w', Cur w' cb s k → Calls Tryd.prog 78 #[.pointer (some ⟨cb, 0, none⟩), .string ⟨#[91, 46]⟩] w' fun e w'' => e = .returned (.bool false) ∧ Mv cb s k w' w'') := Lib.hid fun w' h' => take2_no cb k s 91 46 w' h' (by decide) (by decide) n2
  have HT61 : Hid (∀ w', Cur w' cb s k → Calls Tryd.prog 78 #[.pointer (some ⟨cb, 0, none⟩), .string ⟨#[91, 61]⟩] w' fun e w'' => e = .returned (.bool false) ∧ Mv cb s k w' w'') := Lib.hid fun w' h' => take2_no cb k s 91 61 w' h' (by decide) (by decide) n3
  have HT4 : Hid (∀ w', Cur w' cb s k → Calls Tryd.prog 78 #[.pointer (some ⟨cb, 0, none⟩), .string ⟨#[92]⟩] w' fun e w'' => e = .returned (.bool true) ∧ Mv cb s (k + 1) w' w'') := Lib.hid fun w' h' => take1_yes cb k s 92 w' h' (by decide) h1
  have HN : Hid (∀ w', Cur w' cb s (k + 1) → Calls Tryd.prog 119 #[.pointer (some ⟨cb, 0, none⟩)] w' fun e w'' => e = .returned (.tuple #[.int .u8 (atB s (k + 1)), .bool true]) ∧ Mv cb s ((k + 1) + 1) w' w'') := Lib.hid fun w' h' => by
    have := next_any cb (k + 1) s w' h'
    rw [if_pos hk, decide_eq_true hk] at this
    exact this
  clear hk h1 n1 n2 n3
  generalize atB s (k + 1) = c at *
  clear h he hcf 
  go_enter Tryd.func95, Tryd.ntmps95
  go_wp2_with fail
  obtain ⟨W, hW⟩ : ∃ W, W = w.alloc (.cells #[.int .i64 0, .bool false, .int .u64 0, .int .u64 0, .int .u64 0, .int .u64 0, .int .u8 0] 139) := ⟨_, rfl⟩
  rw [← hW]
  have HMW : Hid (Mv cb s k w W) := Lib.hid (by rw [hW]; exact Mv.below HH.out.2.1 ((Below.refl _ _).alloc (Nat.le_refl _) _))
  have HG0 : Hid (W.heap[w.heap.size]? = some (.cells #[.int .i64 0, .bool false, .int .u64 0, .int .u64 0, .int .u64 0, .int .u64 0, .int .u8 0] 139)) := Lib.hid (by rw [hW]; exact alloc_last w _)
  have hsz : w.heap.size < W.heap.size := by rw [hW]; simp
  clear hW
  have hcb := HH.out.lt.2
  have HR0 := Lib.hid (HH.out.mv HMW.out)
  have HM0 := Lib.hid (Mv.refl HR0.out.2.1)
  refine (HP.out k _ HR0.out).mono ?_
  rintro e w1 ⟨rfl, hm1⟩
  have HM1 := Lib.hid (HM0.out.trans hm1)
  have HR1 := Lib.hid (HR0.out.mv HM1.out)
  obtain ⟨a10, a11, a12, a1z⟩ := HR1.out.facts
  have hz1 : w.heap.size < w1.heap.size := Nat.lt_of_lt_of_le hsz HM1.out.1.size
  clear hm1
  go_wp2_with fail
  refine (HT58.out _ HR1.out.2.1).mono ?_
  rintro e w2 ⟨rfl, hm2⟩
  have HM2 := Lib.hid (HM1.out.trans hm2)
  have HR2 := Lib.hid (HR0.out.mv HM2.out)
  obtain ⟨a20, a21, a22, a2z⟩ := HR2.out.facts
  have hz2 : w.heap.size < w2.heap.size := Nat.lt_of_lt_of_le hsz HM2.out.1.size
  clear hm2
  go_wp2_with fail
  refine (HT46.out _ HR2.out.2.1).mono ?_
  rintro e w3 ⟨rfl, hm3⟩
  have HM3 := Lib.hid (HM2.out.trans hm3)
  have HR3 := Lib.hid (HR0.out.mv HM3.out)
  obtain ⟨a30, a31, a32, a3z⟩ := HR3.out.facts
  have hz3 : w.heap.size < w3.heap.size := Nat.lt_of_lt_of_le hsz HM3.out.1.size
  clear hm3
  go_wp2_with fail
  refine (HT61.out _ HR3.out.2.1).mono ?_
  rintro e w4 ⟨rfl, hm4⟩
  have HM4 := Lib.hid (HM3.out.trans hm4)
  have HR4 := Lib.hid (HR0.out.mv HM4.out)
  obtain ⟨a40, a41, a42, a4z⟩ := HR4.out.facts
  have hz4 : w.heap.size < w4.heap.size := Nat.lt_of_lt_of_le hsz HM4.out.1.size
  clear hm4
  go_wp2_with fail
  refine (HT4.out _ HR4.out.2.1).mono ?_
  rintro e w5 ⟨rfl, hm5⟩
  have HM5 := Lib.hid (HM4.out.trans hm5)
  have HR5 := Lib.hid (HR0.out.mv HM5.out)
  obtain ⟨a50, a51, a52, a5z⟩ := HR5.out.facts
  have hz5 : w.heap.size < w5.heap.size := Nat.lt_of_lt_of_le hsz HM5.out.1.size
  clear hm5
  go_wp2_with fail
  refine (HN.out _ HR5.out.2.1).mono ?_
  rintro e w6 ⟨rfl, hm6⟩
  have HM6 := Lib.hid (HM5.out.trans hm6)
  have HR6 := Lib.hid (HR0.out.mv HM6.out)
  obtain ⟨a60, a61, a62, a6z⟩ := HR6.out.facts
  have hz6 : w.heap.size < w6.heap.size := Nat.lt_of_lt_of_le hsz HM6.out.1.size
  clear hm6
  have hg := (HM6.out.2.2 w.heap.size hsz (by omega)).trans HG0.out
  obtain ⟨⟨c0, c1, c2, c3, c4, c5, c6⟩, ⟨g0, g1, g2, g3, g4, g5, g6⟩, hgz⟩ := cells7 hg
  clear hg
  go_wp2
  refine bodyPost_ret (by simp [results, Tryd.results95, go_sem, c0, c1, c2, c3, c4, c5, c6]; rfl) rfl ⟨by unfold IV; rw [item_no.1, item_no.2.1, item_no.2.2.1, item_no.2.2.2]; rfl, (Mv.setOther (Mv.setOther (Mv.setOther (Mv.setOther (Mv.setOther (Mv.setOther (Mv.setOther (HMW.out.trans HM6.out) w.heap.size 0 _ (Nat.le_refl _) hcb) w.heap.size 1 _ (Nat.le_refl _) hcb) w.heap.size 2 _ (Nat.le_refl _) hcb) w.heap.size 3 _ (Nat.le_refl _) hcb) w.heap.size 4 _ (Nat.le_refl _) hcb) w.heap.size 5 _ (Nat.le_refl _) hcb) w.heap.size 6 _ (Nat.le_refl _) hcb)⟩
set_option maxRecDepth 100000 in
set_option maxHeartbeats 8000000 in
theorem itx_end (cf : ByteArray → (Nat → Bool) × Bool) (hcf : ClassOk cf) (e : Nat → Addr) (rb cb : Nat) (s : ByteArray) (k ah : Nat) (lg : Int) (w : World) (he : Es w cb e) (h : Rdr w rb cb s k ah lg) (hlg : ¬ lg = 2) (hk : ¬ k < s.size) (n1 : ¬ (atB s k = 91 ∧ atB s (k + 1) = 58)) (n2 : ¬ (atB s k = 91 ∧ atB s (k + 1) = 46)) (n3 : ¬ (atB s k = 91 ∧ atB s (k + 1) = 61)) :
    Calls Tryd.prog 95 #[.pointer (some ⟨rb, 0, none⟩)] w fun x w' => ∃ v k', x = .returned (.tuple #[IV 0 false noP 0, v]) ∧ Mv cb s k' w w' ∧ ErrS w' (w.heap.size + 1) e lg 8 (ah + k : Nat) v := by
  have HH := Lib.hid h
  have HE := Lib.hid he
  have HCF := Lib.hid hcf
  have HP : Hid (∀ (j : Nat) (w' : World), Rdr w' rb cb s j ah lg → Calls Tryd.prog 55 #[.pointer (some ⟨rb, 0, none⟩)] w' fun e w'' => e = .returned (.int .i64 (ah + j : Nat)) ∧ Mv cb s j w' w'') := Lib.hid fun j w' h' => place_any rb cb s j ah lg w' h'
  have HT58 : Hid (∀ w', Cur w' cb s k → Calls Tryd.prog 78 #[.pointer (some ⟨cb, 0, none⟩), .string ⟨#[91, 58]⟩] w' fun e w'' => e = .returned (.bool false) ∧ Mv cb s k w' w'') := Lib.hid fun w' h' => take2_no cb k s 91 58 w' h' (by decide) (by decide) n1
  have HT46 : Hid (∀ w', Cur w' cb s k → Calls Tryd.prog 78 #[.pointer (some ⟨cb, 0, none⟩), .string ⟨#[91, 46]⟩] w' fun e w'' => e = .returned (.bool false) ∧ Mv cb s k w' w'') := Lib.hid fun w' h' => take2_no cb k s 91 46 w' h' (by decide) (by decide) n2
  have HT61 : Hid (∀ w', Cur w' cb s k → Calls Tryd.prog 78 #[.pointer (some ⟨cb, 0, none⟩), .string ⟨#[91, 61]⟩] w' fun e w'' => e = .returned (.bool false) ∧ Mv cb s k w' w'') := Lib.hid fun w' h' => take2_no cb k s 91 61 w' h' (by decide) (by decide) n3
  have HN : Hid (∀ w', Cur w' cb s k → Calls Tryd.prog 119 #[.pointer (some ⟨cb, 0, none⟩)] w' fun e w'' => e = .returned (.tuple #[.int .u8 (atB s k), .bool false]) ∧ Mv cb s k w' w'') := Lib.hid fun w' h' => by
    have := next_any cb k s w' h'
    rw [if_neg hk, decide_eq_false hk] at this
    exact this
  clear hk n1 n2 n3
  generalize atB s k = c at *
  clear h he hcf 
  go_enter Tryd.func95, Tryd.ntmps95
  go_wp2_with fail
  obtain ⟨W, hW⟩ : ∃ W, W = w.alloc (.cells #[.int .i64 0, .bool false, .int .u64 0, .int .u64 0, .int .u64 0, .int .u64 0, .int .u8 0] 139) := ⟨_, rfl⟩
  rw [← hW]
  have HMW : Hid (Mv cb s k w W) := Lib.hid (by rw [hW]; exact Mv.below HH.out.2.1 ((Below.refl _ _).alloc (Nat.le_refl _) _))
  have HG0 : Hid (W.heap[w.heap.size]? = some (.cells #[.int .i64 0, .bool false, .int .u64 0, .int .u64 0, .int .u64 0, .int .u64 0, .int .u8 0] 139)) := Lib.hid (by rw [hW]; exact alloc_last w _)
  have hsz : w.heap.size < W.heap.size := by rw [hW]; simp
  clear hW
  have hcb := HH.out.lt.2
  have HR0 := Lib.hid (HH.out.mv HMW.out)
  have HM0 := Lib.hid (Mv.refl HR0.out.2.1)
  refine (HP.out k _ HR0.out).mono ?_
  rintro e w1 ⟨rfl, hm1⟩
  have HM1 := Lib.hid (HM0.out.trans hm1)
  have HR1 := Lib.hid (HR0.out.mv HM1.out)
  obtain ⟨a10, a11, a12, a1z⟩ := HR1.out.facts
  have hz1 : w.heap.size < w1.heap.size := Nat.lt_of_lt_of_le hsz HM1.out.1.size
  clear hm1
  go_wp2_with fail
  refine (HT58.out _ HR1.out.2.1).mono ?_
  rintro e w2 ⟨rfl, hm2⟩
  have HM2 := Lib.hid (HM1.out.trans hm2)
  have HR2 := Lib.hid (HR0.out.mv HM2.out)
  obtain ⟨a20, a21, a22, a2z⟩ := HR2.out.facts
  have hz2 : w.heap.size < w2.heap.size := Nat.lt_of_lt_of_le hsz HM2.out.1.size
  clear hm2
  go_wp2_with fail
  refine (HT46.out _ HR2.out.2.1).mono ?_
  rintro e w3 ⟨rfl, hm3⟩
  have HM3 := Lib.hid (HM2.out.trans hm3)
  have HR3 := Lib.hid (HR0.out.mv HM3.out)
  obtain ⟨a30, a31, a32, a3z⟩ := HR3.out.facts
  have hz3 : w.heap.size < w3.heap.size := Nat.lt_of_lt_of_le hsz HM3.out.1.size
  clear hm3
  go_wp2_with fail
  refine (HT61.out _ HR3.out.2.1).mono ?_
  rintro e w4 ⟨rfl, hm4⟩
  have HM4 := Lib.hid (HM3.out.trans hm4)
  have HR4 := Lib.hid (HR0.out.mv HM4.out)
  obtain ⟨a40, a41, a42, a4z⟩ := HR4.out.facts
  have hz4 : w.heap.size < w4.heap.size := Nat.lt_of_lt_of_le hsz HM4.out.1.size
  clear hm4
  go_wp2_with fail
  refine (HN.out _ HR4.out.2.1).mono ?_
  rintro e w5 ⟨rfl, hm5⟩
  have HM5 := Lib.hid (HM4.out.trans hm5)
  have HR5 := Lib.hid (HR0.out.mv HM5.out)
  obtain ⟨a50, a51, a52, a5z⟩ := HR5.out.facts
  have hz5 : w.heap.size < w5.heap.size := Nat.lt_of_lt_of_le hsz HM5.out.1.size
  clear hm5
  go_wp2_with fail
  refine (HP.out k _ HR5.out).mono ?_
  rintro e w6 ⟨rfl, hm6⟩
  have HM6 := Lib.hid (HM5.out.trans hm6)
  have HR6 := Lib.hid (HR0.out.mv HM6.out)
  obtain ⟨a60, a61, a62, a6z⟩ := HR6.out.facts
  have hz6 : w.heap.size < w6.heap.size := Nat.lt_of_lt_of_le hsz HM6.out.1.size
  clear hm6
  go_wp2_with fail
  refine (refuse_any rb lg e cb 8 (ah + k) (by decide) _ (HE.out.below (HMW.out.trans HM6.out).1) a62).mono ?_
  rintro e w7 ⟨v, rfl, her7, hb⟩
  have hm7 := Mv.below HR6.out.2.1 hb
  have HM7 := Lib.hid (HM6.out.trans hm7)
  have HR7 := Lib.hid (HR0.out.mv HM7.out)
  obtain ⟨a70, a71, a72, a7z⟩ := HR7.out.facts
  have hz7 : w.heap.size < w7.heap.size := Nat.lt_of_lt_of_le hsz HM7.out.1.size
  clear hm7
  have HER := Lib.hid her7
  clear her7 hb
  have hg := (HM7.out.2.2 w.heap.size hsz (by omega)).trans HG0.out
  obtain ⟨⟨c0, c1, c2, c3, c4, c5, c6⟩, ⟨g0, g1, g2, g3, g4, g5, g6⟩, hgz⟩ := cells7 hg
  clear hg
  go_wp2
  refine bodyPost_ret (by simp [results, Tryd.results95, go_sem, c0, c1, c2, c3, c4, c5, c6]; rfl) rfl ⟨v, _, by unfold IV; rw [item_no.1, item_no.2.1, item_no.2.2.1, item_no.2.2.2]; rfl, (Mv.setOther (Mv.setOther (Mv.setOther (Mv.setOther (Mv.setOther (Mv.setOther (Mv.setOther (HMW.out.trans HM7.out) w.heap.size 0 _ (Nat.le_refl _) hcb) w.heap.size 1 _ (Nat.le_refl _) hcb) w.heap.size 2 _ (Nat.le_refl _) hcb) w.heap.size 3 _ (Nat.le_refl _) hcb) w.heap.size 4 _ (Nat.le_refl _) hcb) w.heap.size 5 _ (Nat.le_refl _) hcb) w.heap.size 6 _ (Nat.le_refl _) hcb), ?_⟩
  exact (ErrS.set (ErrS.set (ErrS.set (ErrS.set (ErrS.set (ErrS.set (ErrS.set (HER.out.lower (by omega)) w.heap.size 0 _ (by omega)) w.heap.size 1 _ (by omega)) w.heap.size 2 _ (by omega)) w.heap.size 3 _ (by omega)) w.heap.size 4 _ (by omega)) w.heap.size 5 _ (by omega)) w.heap.size 6 _ (by omega))
set_option maxRecDepth 100000 in
set_option maxHeartbeats 8000000 in
theorem itx_endg (cf : ByteArray → (Nat → Bool) × Bool) (hcf : ClassOk cf) (e : Nat → Addr) (rb cb : Nat) (s : ByteArray) (k ah : Nat) (lg : Int) (w : World) (he : Es w cb e) (h : Rdr w rb cb s k ah lg) (hlg : lg = 2) (hk : ¬ k < s.size) (n1 : ¬ (atB s k = 91 ∧ atB s (k + 1) = 58)) (n2 : ¬ (atB s k = 91 ∧ atB s (k + 1) = 46)) (n3 : ¬ (atB s k = 91 ∧ atB s (k + 1) = 61)) (h2 : ¬ atB s k = 92) :
    Calls Tryd.prog 95 #[.pointer (some ⟨rb, 0, none⟩)] w fun x w' => ∃ v k', x = .returned (.tuple #[IV 0 false noP 0, v]) ∧ Mv cb s k' w w' ∧ ErrS w' (w.heap.size + 1) e lg 8 (ah + k : Nat) v := by
  have HH := Lib.hid h
  have HE := Lib.hid he
  have HCF := Lib.hid hcf
  have HP : Hid (∀ (j : Nat) (w' : World), Rdr w' rb cb s j ah lg → Calls Tryd.prog 55 #[.pointer (some ⟨rb, 0, none⟩)] w' fun e w'' => e = .returned (.int .i64 (ah + j : Nat)) ∧ Mv cb s j w' w'') := Lib.hid fun j w' h' => place_any rb cb s j ah lg w' h'
  have HT58 : Hid (∀ w', Cur w' cb s k → Calls Tryd.prog 78 #[.pointer (some ⟨cb, 0, none⟩), .string ⟨#[91, 58]⟩] w' fun e w'' => e = .returned (.bool false) ∧ Mv cb s k w' w'') := Lib.hid fun w' h' => take2_no cb k s 91 58 w' h' (by decide) (by decide) n1
  have HT46 : Hid (∀ w', Cur w' cb s k → Calls Tryd.prog 78 #[.pointer (some ⟨cb, 0, none⟩), .string ⟨#[91, 46]⟩] w' fun e w'' => e = .returned (.bool false) ∧ Mv cb s k w' w'') := Lib.hid fun w' h' => take2_no cb k s 91 46 w' h' (by decide) (by decide) n2
  have HT61 : Hid (∀ w', Cur w' cb s k → Calls Tryd.prog 78 #[.pointer (some ⟨cb, 0, none⟩), .string ⟨#[91, 61]⟩] w' fun e w'' => e = .returned (.bool false) ∧ Mv cb s k w' w'') := Lib.hid fun w' h' => take2_no cb k s 91 61 w' h' (by decide) (by decide) n3
  have HT4 : Hid (∀ w', Cur w' cb s k → Calls Tryd.prog 78 #[.pointer (some ⟨cb, 0, none⟩), .string ⟨#[92]⟩] w' fun e w'' => e = .returned (.bool false) ∧ Mv cb s k w' w'') := Lib.hid fun w' h' => take1_no cb k s 92 w' h' (by decide) h2
  have HN : Hid (∀ w', Cur w' cb s k → Calls Tryd.prog 119 #[.pointer (some ⟨cb, 0, none⟩)] w' fun e w'' => e = .returned (.tuple #[.int .u8 (atB s k), .bool false]) ∧ Mv cb s k w' w'') := Lib.hid fun w' h' => by
    have := next_any cb k s w' h'
    rw [if_neg hk, decide_eq_false hk] at this
    exact this
  clear hk h2 n1 n2 n3
  generalize atB s k = c at *
  clear h he hcf 
  go_enter Tryd.func95, Tryd.ntmps95
  go_wp2_with fail
  obtain ⟨W, hW⟩ : ∃ W, W = w.alloc (.cells #[.int .i64 0, .bool false, .int .u64 0, .int .u64 0, .int .u64 0, .int .u64 0, .int .u8 0] 139) := ⟨_, rfl⟩
  rw [← hW]
  have HMW : Hid (Mv cb s k w W) := Lib.hid (by rw [hW]; exact Mv.below HH.out.2.1 ((Below.refl _ _).alloc (Nat.le_refl _) _))
  have HG0 : Hid (W.heap[w.heap.size]? = some (.cells #[.int .i64 0, .bool false, .int .u64 0, .int .u64 0, .int .u64 0, .int .u64 0, .int .u8 0] 139)) := Lib.hid (by rw [hW]; exact alloc_last w _)
  have hsz : w.heap.size < W.heap.size := by rw [hW]; simp
  clear hW
  have hcb := HH.out.lt.2
  have HR0 := Lib.hid (HH.out.mv HMW.out)
  have HM0 := Lib.hid (Mv.refl HR0.out.2.1)
  refine (HP.out k _ HR0.out).mono ?_
  rintro e w1 ⟨rfl, hm1⟩
  have HM1 := Lib.hid (HM0.out.trans hm1)
  have HR1 := Lib.hid (HR0.out.mv HM1.out)
  obtain ⟨a10, a11, a12, a1z⟩ := HR1.out.facts
  have hz1 : w.heap.size < w1.heap.size := Nat.lt_of_lt_of_le hsz HM1.out.1.size
  clear hm1
  go_wp2_with fail
  refine (HT58.out _ HR1.out.2.1).mono ?_
  rintro e w2 ⟨rfl, hm2⟩
  have HM2 := Lib.hid (HM1.out.trans hm2)
  have HR2 := Lib.hid (HR0.out.mv HM2.out)
  obtain ⟨a20, a21, a22, a2z⟩ := HR2.out.facts
  have hz2 : w.heap.size < w2.heap.size := Nat.lt_of_lt_of_le hsz HM2.out.1.size
  clear hm2
  go_wp2_with fail
  refine (HT46.out _ HR2.out.2.1).mono ?_
  rintro e w3 ⟨rfl, hm3⟩
  have HM3 := Lib.hid (HM2.out.trans hm3)
  have HR3 := Lib.hid (HR0.out.mv HM3.out)
  obtain ⟨a30, a31, a32, a3z⟩ := HR3.out.facts
  have hz3 : w.heap.size < w3.heap.size := Nat.lt_of_lt_of_le hsz HM3.out.1.size
  clear hm3
  go_wp2_with fail
  refine (HT61.out _ HR3.out.2.1).mono ?_
  rintro e w4 ⟨rfl, hm4⟩
  have HM4 := Lib.hid (HM3.out.trans hm4)
  have HR4 := Lib.hid (HR0.out.mv HM4.out)
  obtain ⟨a40, a41, a42, a4z⟩ := HR4.out.facts
  have hz4 : w.heap.size < w4.heap.size := Nat.lt_of_lt_of_le hsz HM4.out.1.size
  clear hm4
  go_wp2_with fail
  refine (HT4.out _ HR4.out.2.1).mono ?_
  rintro e w5 ⟨rfl, hm5⟩
  have HM5 := Lib.hid (HM4.out.trans hm5)
  have HR5 := Lib.hid (HR0.out.mv HM5.out)
  obtain ⟨a50, a51, a52, a5z⟩ := HR5.out.facts
  have hz5 : w.heap.size < w5.heap.size := Nat.lt_of_lt_of_le hsz HM5.out.1.size
  clear hm5
  go_wp2_with fail
  refine (HN.out _ HR5.out.2.1).mono ?_
  rintro e w6 ⟨rfl, hm6⟩
  have HM6 := Lib.hid (HM5.out.trans hm6)
  have HR6 := Lib.hid (HR0.out.mv HM6.out)
  obtain ⟨a60, a61, a62, a6z⟩ := HR6.out.facts
  have hz6 : w.heap.size < w6.heap.size := Nat.lt_of_lt_of_le hsz HM6.out.1.size
  clear hm6
  go_wp2_with fail
  refine (HP.out k _ HR6.out).mono ?_
  rintro e w7 ⟨rfl, hm7⟩
  have HM7 := Lib.hid (HM6.out.trans hm7)
  have HR7 := Lib.hid (HR0.out.mv HM7.out)
  obtain ⟨a70, a71, a72, a7z⟩ := HR7.out.facts
  have hz7 : w.heap.size < w7.heap.size := Nat.lt_of_lt_of_le hsz HM7.out.1.size
  clear hm7
  go_wp2_with fail
  refine (refuse_any rb lg e cb 8 (ah + k) (by decide) _ (HE.out.below (HMW.out.trans HM7.out).1) a72).mono ?_
  rintro e w8 ⟨v, rfl, her8, hb⟩
  have hm8 := Mv.below HR7.out.2.1 hb
  have HM8 := Lib.hid (HM7.out.trans hm8)
  have HR8 := Lib.hid (HR0.out.mv HM8.out)
  obtain ⟨a80, a81, a82, a8z⟩ := HR8.out.facts
  have hz8 : w.heap.size < w8.heap.size := Nat.lt_of_lt_of_le hsz HM8.out.1.size
  clear hm8
  have HER := Lib.hid her8
  clear her8 hb
  have hg := (HM8.out.2.2 w.heap.size hsz (by omega)).trans HG0.out
  obtain ⟨⟨c0, c1, c2, c3, c4, c5, c6⟩, ⟨g0, g1, g2, g3, g4, g5, g6⟩, hgz⟩ := cells7 hg
  clear hg
  go_wp2
  refine bodyPost_ret (by simp [results, Tryd.results95, go_sem, c0, c1, c2, c3, c4, c5, c6]; rfl) rfl ⟨v, _, by unfold IV; rw [item_no.1, item_no.2.1, item_no.2.2.1, item_no.2.2.2]; rfl, (Mv.setOther (Mv.setOther (Mv.setOther (Mv.setOther (Mv.setOther (Mv.setOther (Mv.setOther (HMW.out.trans HM8.out) w.heap.size 0 _ (Nat.le_refl _) hcb) w.heap.size 1 _ (Nat.le_refl _) hcb) w.heap.size 2 _ (Nat.le_refl _) hcb) w.heap.size 3 _ (Nat.le_refl _) hcb) w.heap.size 4 _ (Nat.le_refl _) hcb) w.heap.size 5 _ (Nat.le_refl _) hcb) w.heap.size 6 _ (Nat.le_refl _) hcb), ?_⟩
  exact (ErrS.set (ErrS.set (ErrS.set (ErrS.set (ErrS.set (ErrS.set (ErrS.set (HER.out.lower (by omega)) w.heap.size 0 _ (by omega)) w.heap.size 1 _ (by omega)) w.heap.size 2 _ (by omega)) w.heap.size 3 _ (by omega)) w.heap.size 4 _ (by omega)) w.heap.size 5 _ (by omega)) w.heap.size 6 _ (by omega))
set_option maxRecDepth 100000 in
set_option maxHeartbeats 8000000 in
theorem itx_ende (cf : ByteArray → (Nat → Bool) × Bool) (hcf : ClassOk cf) (e : Nat → Addr) (rb cb : Nat) (s : ByteArray) (k ah : Nat) (lg : Int) (w : World) (he : Es w cb e) (h : Rdr w rb cb s k ah lg) (hlg : lg = 2) (hk : ¬ (k + 1) < s.size) (h1 : atB s k = 92) :
    Calls Tryd.prog 95 #[.pointer (some ⟨rb, 0, none⟩)] w fun x w' => ∃ v k', x = .returned (.tuple #[IV 0 false noP 0, v]) ∧ Mv cb s k' w w' ∧ ErrS w' (w.heap.size + 1) e lg 8 (ah + (k + 1) : Nat) v := by
  have HH := Lib.hid h
  have HE := Lib.hid he
  have HCF := Lib.hid hcf
  have HP : Hid (∀ (j : Nat) (w' : World), Rdr w' rb cb s j ah lg → Calls Tryd.prog 55 #[.pointer (some ⟨rb, 0, none⟩)] w' fun e w'' => e = .returned (.int .i64 (ah + j : Nat)) ∧ Mv cb s j w' w'') := Lib.hid fun j w' h' => place_any rb cb s j ah lg w' h'
  have n1 : ¬ (atB s k = 91 ∧ atB s (k + 1) = 58) := fun h => by rw [h1] at h; exact absurd h.1 (by decide)
  have n2 : ¬ (atB s k = 91 ∧ atB s (k + 1) = 46) := fun h => by rw [h1] at h; exact absurd h.1 (by decide)
  have n3 : ¬ (atB s k = 91 ∧ atB s (k + 1) = 61) := fun h => by rw [h1] at h; exact absurd h.1 (by decide)
  have HT58 : Hid (∀ w', Cur w' cb s k → Calls Tryd.prog 78 #[.pointer (some ⟨cb, 0, none⟩), .string ⟨#[91, 58]⟩] w' fun e w'' => e = .returned (.bool false) ∧ Mv cb s k w' w'') := Lib.hid fun w' h' => take2_no cb k s 91 58 w' h' (by decide) (by decide) n1
  have HT46 : Hid (∀ w', Cur w' cb s k → Calls Tryd.prog 78 #[.pointer (some ⟨cb, 0, none⟩), .string ⟨#[91, 46]⟩] w' fun e w'' => e = .returned (.bool false) ∧ Mv cb s k w' w'') := Lib.hid fun w' h' => take2_no cb k s 91 46 w' h' (by decide) (by decide) n2
  have HT61 : Hid (∀ w', Cur w' cb s k → Calls Tryd.prog 78 #[.pointer (some ⟨cb, 0, none⟩), .string ⟨#[91, 61]⟩] w' fun e w'' => e = .returned (.bool false) ∧ Mv cb s k w' w'') := Lib.hid fun w' h' => take2_no cb k s 91 61 w' h' (by decide) (by decide) n3
  have HT4 : Hid (∀ w', Cur w' cb s k → Calls Tryd.prog 78 #[.pointer (some ⟨cb, 0, none⟩), .string ⟨#[92]⟩] w' fun e w'' => e = .returned (.bool true) ∧ Mv cb s (k + 1) w' w'') := Lib.hid fun w' h' => take1_yes cb k s 92 w' h' (by decide) h1
  have HN : Hid (∀ w', Cur w' cb s (k + 1) → Calls Tryd.prog 119 #[.pointer (some ⟨cb, 0, none⟩)] w' fun e w'' => e = .returned (.tuple #[.int .u8 (atB s (k + 1)), .bool false]) ∧ Mv cb s (k + 1) w' w'') := Lib.hid fun w' h' => by
    have := next_any cb (k + 1) s w' h'
    rw [if_neg hk, decide_eq_false hk] at this
    exact this
  clear hk h1 n1 n2 n3
  generalize atB s (k + 1) = c at *
  clear h he hcf 
  go_enter Tryd.func95, Tryd.ntmps95
  go_wp2_with fail
  obtain ⟨W, hW⟩ : ∃ W, W = w.alloc (.cells #[.int .i64 0, .bool false, .int .u64 0, .int .u64 0, .int .u64 0, .int .u64 0, .int .u8 0] 139) := ⟨_, rfl⟩
  rw [← hW]
  have HMW : Hid (Mv cb s k w W) := Lib.hid (by rw [hW]; exact Mv.below HH.out.2.1 ((Below.refl _ _).alloc (Nat.le_refl _) _))
  have HG0 : Hid (W.heap[w.heap.size]? = some (.cells #[.int .i64 0, .bool false, .int .u64 0, .int .u64 0, .int .u64 0, .int .u64 0, .int .u8 0] 139)) := Lib.hid (by rw [hW]; exact alloc_last w _)
  have hsz : w.heap.size < W.heap.size := by rw [hW]; simp
  clear hW
  have hcb := HH.out.lt.2
  have HR0 := Lib.hid (HH.out.mv HMW.out)
  have HM0 := Lib.hid (Mv.refl HR0.out.2.1)
  refine (HP.out k _ HR0.out).mono ?_
  rintro e w1 ⟨rfl, hm1⟩
  have HM1 := Lib.hid (HM0.out.trans hm1)
  have HR1 := Lib.hid (HR0.out.mv HM1.out)
  obtain ⟨a10, a11, a12, a1z⟩ := HR1.out.facts
  have hz1 : w.heap.size < w1.heap.size := Nat.lt_of_lt_of_le hsz HM1.out.1.size
  clear hm1
  go_wp2_with fail
  refine (HT58.out _ HR1.out.2.1).mono ?_
  rintro e w2 ⟨rfl, hm2⟩
  have HM2 := Lib.hid (HM1.out.trans hm2)
  have HR2 := Lib.hid (HR0.out.mv HM2.out)
  obtain ⟨a20, a21, a22, a2z⟩ := HR2.out.facts
  have hz2 : w.heap.size < w2.heap.size := Nat.lt_of_lt_of_le hsz HM2.out.1.size
  clear hm2
  go_wp2_with fail
  refine (HT46.out _ HR2.out.2.1).mono ?_
  rintro e w3 ⟨rfl, hm3⟩
  have HM3 := Lib.hid (HM2.out.trans hm3)
  have HR3 := Lib.hid (HR0.out.mv HM3.out)
  obtain ⟨a30, a31, a32, a3z⟩ := HR3.out.facts
  have hz3 : w.heap.size < w3.heap.size := Nat.lt_of_lt_of_le hsz HM3.out.1.size
  clear hm3
  go_wp2_with fail
  refine (HT61.out _ HR3.out.2.1).mono ?_
  rintro e w4 ⟨rfl, hm4⟩
  have HM4 := Lib.hid (HM3.out.trans hm4)
  have HR4 := Lib.hid (HR0.out.mv HM4.out)
  obtain ⟨a40, a41, a42, a4z⟩ := HR4.out.facts
  have hz4 : w.heap.size < w4.heap.size := Nat.lt_of_lt_of_le hsz HM4.out.1.size
  clear hm4
  go_wp2_with fail
  refine (HT4.out _ HR4.out.2.1).mono ?_
  rintro e w5 ⟨rfl, hm5⟩
  have HM5 := Lib.hid (HM4.out.trans hm5)
  have HR5 := Lib.hid (HR0.out.mv HM5.out)
  obtain ⟨a50, a51, a52, a5z⟩ := HR5.out.facts
  have hz5 : w.heap.size < w5.heap.size := Nat.lt_of_lt_of_le hsz HM5.out.1.size
  clear hm5
  go_wp2_with fail
  refine (HN.out _ HR5.out.2.1).mono ?_
  rintro e w6 ⟨rfl, hm6⟩
  have HM6 := Lib.hid (HM5.out.trans hm6)
  have HR6 := Lib.hid (HR0.out.mv HM6.out)
  obtain ⟨a60, a61, a62, a6z⟩ := HR6.out.facts
  have hz6 : w.heap.size < w6.heap.size := Nat.lt_of_lt_of_le hsz HM6.out.1.size
  clear hm6
  go_wp2_with fail
  refine (HP.out (k + 1) _ HR6.out).mono ?_
  rintro e w7 ⟨rfl, hm7⟩
  have HM7 := Lib.hid (HM6.out.trans hm7)
  have HR7 := Lib.hid (HR0.out.mv HM7.out)
  obtain ⟨a70, a71, a72, a7z⟩ := HR7.out.facts
  have hz7 : w.heap.size < w7.heap.size := Nat.lt_of_lt_of_le hsz HM7.out.1.size
  clear hm7
  go_wp2_with fail
  refine (refuse_any rb lg e cb 8 (ah + (k + 1)) (by decide) _ (HE.out.below (HMW.out.trans HM7.out).1) a72).mono ?_
  rintro e w8 ⟨v, rfl, her8, hb⟩
  have hm8 := Mv.below HR7.out.2.1 hb
  have HM8 := Lib.hid (HM7.out.trans hm8)
  have HR8 := Lib.hid (HR0.out.mv HM8.out)
  obtain ⟨a80, a81, a82, a8z⟩ := HR8.out.facts
  have hz8 : w.heap.size < w8.heap.size := Nat.lt_of_lt_of_le hsz HM8.out.1.size
  clear hm8
  have HER := Lib.hid her8
  clear her8 hb
  have hg := (HM8.out.2.2 w.heap.size hsz (by omega)).trans HG0.out
  obtain ⟨⟨c0, c1, c2, c3, c4, c5, c6⟩, ⟨g0, g1, g2, g3, g4, g5, g6⟩, hgz⟩ := cells7 hg
  clear hg
  go_wp2
  refine bodyPost_ret (by simp [results, Tryd.results95, go_sem, c0, c1, c2, c3, c4, c5, c6]; rfl) rfl ⟨v, _, by unfold IV; rw [item_no.1, item_no.2.1, item_no.2.2.1, item_no.2.2.2]; rfl, (Mv.setOther (Mv.setOther (Mv.setOther (Mv.setOther (Mv.setOther (Mv.setOther (Mv.setOther (HMW.out.trans HM8.out) w.heap.size 0 _ (Nat.le_refl _) hcb) w.heap.size 1 _ (Nat.le_refl _) hcb) w.heap.size 2 _ (Nat.le_refl _) hcb) w.heap.size 3 _ (Nat.le_refl _) hcb) w.heap.size 4 _ (Nat.le_refl _) hcb) w.heap.size 5 _ (Nat.le_refl _) hcb) w.heap.size 6 _ (Nat.le_refl _) hcb), ?_⟩
  exact (ErrS.set (ErrS.set (ErrS.set (ErrS.set (ErrS.set (ErrS.set (ErrS.set (HER.out.lower (by omega)) w.heap.size 0 _ (by omega)) w.heap.size 1 _ (by omega)) w.heap.size 2 _ (by omega)) w.heap.size 3 _ (by omega)) w.heap.size 4 _ (by omega)) w.heap.size 5 _ (by omega)) w.heap.size 6 _ (by omega))
set_option maxRecDepth 100000 in
set_option maxHeartbeats 8000000 in
theorem itx_dot (cf : ByteArray → (Nat → Bool) × Bool) (hcf : ClassOk cf) (e : Nat → Addr) (rb cb : Nat) (s : ByteArray) (k ah : Nat) (lg : Int) (w : World) (he : Es w cb e) (h : Rdr w rb cb s k ah lg) (h1 : atB s k = 91) (h2 : atB s (k + 1) = 46) :
    Calls Tryd.prog 95 #[.pointer (some ⟨rb, 0, none⟩)] w fun x w' => ∃ v k', x = .returned (.tuple #[IV 0 false noP 0, v]) ∧ Mv cb s k' w w' ∧ ErrS w' (w.heap.size + 1) e lg 8 (ah + k : Nat) v := by
  have HH := Lib.hid h
  have HE := Lib.hid he
  have HCF := Lib.hid hcf
  have HP : Hid (∀ (j : Nat) (w' : World), Rdr w' rb cb s j ah lg → Calls Tryd.prog 55 #[.pointer (some ⟨rb, 0, none⟩)] w' fun e w'' => e = .returned (.int .i64 (ah + j : Nat)) ∧ Mv cb s j w' w'') := Lib.hid fun j w' h' => place_any rb cb s j ah lg w' h'
  have n1 : ¬ (atB s k = 91 ∧ atB s (k + 1) = 58) := fun h => by rw [h2] at h; exact absurd h.2 (by decide)
  have HT58 : Hid (∀ w', Cur w' cb s k → Calls Tryd.prog 78 #[.pointer (some ⟨cb, 0, none⟩), .string ⟨#[91, 58]⟩] w' fun e w'' => e = .returned (.bool false) ∧ Mv cb s k w' w'') := Lib.hid fun w' h' => take2_no cb k s 91 58 w' h' (by decide) (by decide) n1
  have HT46 : Hid (∀ w', Cur w' cb s k → Calls Tryd.prog 78 #[.pointer (some ⟨cb, 0, none⟩), .string ⟨#[91, 46]⟩] w' fun e w'' => e = .returned (.bool true) ∧ Mv cb s (k + 2) w' w'') := Lib.hid fun w' h' => take2_yes cb k s 91 46 w' h' (by decide) (by decide) h1 h2
  clear h1 h2 n1
  clear h he hcf 
  go_enter Tryd.func95, Tryd.ntmps95
  go_wp2_with fail
  obtain ⟨W, hW⟩ : ∃ W, W = w.alloc (.cells #[.int .i64 0, .bool false, .int .u64 0, .int .u64 0, .int .u64 0, .int .u64 0, .int .u8 0] 139) := ⟨_, rfl⟩
  rw [← hW]
  have HMW : Hid (Mv cb s k w W) := Lib.hid (by rw [hW]; exact Mv.below HH.out.2.1 ((Below.refl _ _).alloc (Nat.le_refl _) _))
  have HG0 : Hid (W.heap[w.heap.size]? = some (.cells #[.int .i64 0, .bool false, .int .u64 0, .int .u64 0, .int .u64 0, .int .u64 0, .int .u8 0] 139)) := Lib.hid (by rw [hW]; exact alloc_last w _)
  have hsz : w.heap.size < W.heap.size := by rw [hW]; simp
  clear hW
  have hcb := HH.out.lt.2
  have HR0 := Lib.hid (HH.out.mv HMW.out)
  have HM0 := Lib.hid (Mv.refl HR0.out.2.1)
  refine (HP.out k _ HR0.out).mono ?_
  rintro e w1 ⟨rfl, hm1⟩
  have HM1 := Lib.hid (HM0.out.trans hm1)
  have HR1 := Lib.hid (HR0.out.mv HM1.out)
  obtain ⟨a10, a11, a12, a1z⟩ := HR1.out.facts
  have hz1 : w.heap.size < w1.heap.size := Nat.lt_of_lt_of_le hsz HM1.out.1.size
  clear hm1
  go_wp2_with fail
  refine (HT58.out _ HR1.out.2.1).mono ?_
  rintro e w2 ⟨rfl, hm2⟩
  have HM2 := Lib.hid (HM1.out.trans hm2)
  have HR2 := Lib.hid (HR0.out.mv HM2.out)
  obtain ⟨a20, a21, a22, a2z⟩ := HR2.out.facts
  have hz2 : w.heap.size < w2.heap.size := Nat.lt_of_lt_of_le hsz HM2.out.1.size
  clear hm2
  go_wp2_with fail
  refine (HT46.out _ HR2.out.2.1).mono ?_
  rintro e w3 ⟨rfl, hm3⟩
  have HM3 := Lib.hid (HM2.out.trans hm3)
  have HR3 := Lib.hid (HR0.out.mv HM3.out)
  obtain ⟨a30, a31, a32, a3z⟩ := HR3.out.facts
  have hz3 : w.heap.size < w3.heap.size := Nat.lt_of_lt_of_le hsz HM3.out.1.size
  clear hm3
  go_wp2_with fail
  refine (refuse_any rb lg e cb 8 (ah + k) (by decide) _ (HE.out.below (HMW.out.trans HM3.out).1) a32).mono ?_
  rintro e w4 ⟨v, rfl, her4, hb⟩
  have hm4 := Mv.below HR3.out.2.1 hb
  have HM4 := Lib.hid (HM3.out.trans hm4)
  have HR4 := Lib.hid (HR0.out.mv HM4.out)
  obtain ⟨a40, a41, a42, a4z⟩ := HR4.out.facts
  have hz4 : w.heap.size < w4.heap.size := Nat.lt_of_lt_of_le hsz HM4.out.1.size
  clear hm4
  have HER := Lib.hid her4
  clear her4 hb
  have hg := (HM4.out.2.2 w.heap.size hsz (by omega)).trans HG0.out
  obtain ⟨⟨c0, c1, c2, c3, c4, c5, c6⟩, ⟨g0, g1, g2, g3, g4, g5, g6⟩, hgz⟩ := cells7 hg
  clear hg
  go_wp2
  refine bodyPost_ret (by simp [results, Tryd.results95, go_sem, c0, c1, c2, c3, c4, c5, c6]; rfl) rfl ⟨v, _, by unfold IV; rw [item_no.1, item_no.2.1, item_no.2.2.1, item_no.2.2.2]; rfl, (Mv.setOther (Mv.setOther (Mv.setOther (Mv.setOther (Mv.setOther (Mv.setOther (Mv.setOther (HMW.out.trans HM4.out) w.heap.size 0 _ (Nat.le_refl _) hcb) w.heap.size 1 _ (Nat.le_refl _) hcb) w.heap.size 2 _ (Nat.le_refl _) hcb) w.heap.size 3 _ (Nat.le_refl _) hcb) w.heap.size 4 _ (Nat.le_refl _) hcb) w.heap.size 5 _ (Nat.le_refl _) hcb) w.heap.size 6 _ (Nat.le_refl _) hcb), ?_⟩
  exact (ErrS.set (ErrS.set (ErrS.set (ErrS.set (ErrS.set (ErrS.set (ErrS.set (HER.out.lower (by omega)) w.heap.size 0 _ (by omega)) w.heap.size 1 _ (by omega)) w.heap.size 2 _ (by omega)) w.heap.size 3 _ (by omega)) w.heap.size 4 _ (by omega)) w.heap.size 5 _ (by omega)) w.heap.size 6 _ (by omega))
set_option maxRecDepth 100000 in
set_option maxHeartbeats 8000000 in
theorem itx_eq (cf : ByteArray → (Nat → Bool) × Bool) (hcf : ClassOk cf) (e : Nat → Addr) (rb cb : Nat) (s : ByteArray) (k ah : Nat) (lg : Int) (w : World) (he : Es w cb e) (h : Rdr w rb cb s k ah lg) (h1 : atB s k = 91) (h2 : atB s (k + 1) = 61) :
    Calls Tryd.prog 95 #[.pointer (some ⟨rb, 0, none⟩)] w fun x w' => ∃ v k', x = .returned (.tuple #[IV 0 false noP 0, v]) ∧ Mv cb s k' w w' ∧ ErrS w' (w.heap.size + 1) e lg 8 (ah + k : Nat) v := by
  have HH := Lib.hid h
  have HE := Lib.hid he
  have HCF := Lib.hid hcf
  have HP : Hid (∀ (j : Nat) (w' : World), Rdr w' rb cb s j ah lg → Calls Tryd.prog 55 #[.pointer (some ⟨rb, 0, none⟩)] w' fun e w'' => e = .returned (.int .i64 (ah + j : Nat)) ∧ Mv cb s j w' w'') := Lib.hid fun j w' h' => place_any rb cb s j ah lg w' h'
  have n1 : ¬ (atB s k = 91 ∧ atB s (k + 1) = 58) := fun h => by rw [h2] at h; exact absurd h.2 (by decide)
  have n2 : ¬ (atB s k = 91 ∧ atB s (k + 1) = 46) := fun h => by rw [h2] at h; exact absurd h.2 (by decide)
  have HT58 : Hid (∀ w', Cur w' cb s k → Calls Tryd.prog 78 #[.pointer (some ⟨cb, 0, none⟩), .string ⟨#[91, 58]⟩] w' fun e w'' => e = .returned (.bool false) ∧ Mv cb s k w' w'') := Lib.hid fun w' h' => take2_no cb k s 91 58 w' h' (by decide) (by decide) n1
  have HT46 : Hid (∀ w', Cur w' cb s k → Calls Tryd.prog 78 #[.pointer (some ⟨cb, 0, none⟩), .string ⟨#[91, 46]⟩] w' fun e w'' => e = .returned (.bool false) ∧ Mv cb s k w' w'') := Lib.hid fun w' h' => take2_no cb k s 91 46 w' h' (by decide) (by decide) n2
  have HT61 : Hid (∀ w', Cur w' cb s k → Calls Tryd.prog 78 #[.pointer (some ⟨cb, 0, none⟩), .string ⟨#[91, 61]⟩] w' fun e w'' => e = .returned (.bool true) ∧ Mv cb s (k + 2) w' w'') := Lib.hid fun w' h' => take2_yes cb k s 91 61 w' h' (by decide) (by decide) h1 h2
  clear h1 h2 n1 n2
  clear h he hcf 
  go_enter Tryd.func95, Tryd.ntmps95
  go_wp2_with fail
  obtain ⟨W, hW⟩ : ∃ W, W = w.alloc (.cells #[.int .i64 0, .bool false, .int .u64 0, .int .u64 0, .int .u64 0, .int .u64 0, .int .u8 0] 139) := ⟨_, rfl⟩
  rw [← hW]
  have HMW : Hid (Mv cb s k w W) := Lib.hid (by rw [hW]; exact Mv.below HH.out.2.1 ((Below.refl _ _).alloc (Nat.le_refl _) _))
  have HG0 : Hid (W.heap[w.heap.size]? = some (.cells #[.int .i64 0, .bool false, .int .u64 0, .int .u64 0, .int .u64 0, .int .u64 0, .int .u8 0] 139)) := Lib.hid (by rw [hW]; exact alloc_last w _)
  have hsz : w.heap.size < W.heap.size := by rw [hW]; simp
  clear hW
  have hcb := HH.out.lt.2
  have HR0 := Lib.hid (HH.out.mv HMW.out)
  have HM0 := Lib.hid (Mv.refl HR0.out.2.1)
  refine (HP.out k _ HR0.out).mono ?_
  rintro e w1 ⟨rfl, hm1⟩
  have HM1 := Lib.hid (HM0.out.trans hm1)
  have HR1 := Lib.hid (HR0.out.mv HM1.out)
  obtain ⟨a10, a11, a12, a1z⟩ := HR1.out.facts
  have hz1 : w.heap.size < w1.heap.size := Nat.lt_of_lt_of_le hsz HM1.out.1.size
  clear hm1
  go_wp2_with fail
  refine (HT58.out _ HR1.out.2.1).mono ?_
  rintro e w2 ⟨rfl, hm2⟩
  have HM2 := Lib.hid (HM1.out.trans hm2)
  have HR2 := Lib.hid (HR0.out.mv HM2.out)
  obtain ⟨a20, a21, a22, a2z⟩ := HR2.out.facts
  have hz2 : w.heap.size < w2.heap.size := Nat.lt_of_lt_of_le hsz HM2.out.1.size
  clear hm2
  go_wp2_with fail
  refine (HT46.out _ HR2.out.2.1).mono ?_
  rintro e w3 ⟨rfl, hm3⟩
  have HM3 := Lib.hid (HM2.out.trans hm3)
  have HR3 := Lib.hid (HR0.out.mv HM3.out)
  obtain ⟨a30, a31, a32, a3z⟩ := HR3.out.facts
  have hz3 : w.heap.size < w3.heap.size := Nat.lt_of_lt_of_le hsz HM3.out.1.size
  clear hm3
  go_wp2_with fail
  refine (HT61.out _ HR3.out.2.1).mono ?_
  rintro e w4 ⟨rfl, hm4⟩
  have HM4 := Lib.hid (HM3.out.trans hm4)
  have HR4 := Lib.hid (HR0.out.mv HM4.out)
  obtain ⟨a40, a41, a42, a4z⟩ := HR4.out.facts
  have hz4 : w.heap.size < w4.heap.size := Nat.lt_of_lt_of_le hsz HM4.out.1.size
  clear hm4
  go_wp2_with fail
  refine (refuse_any rb lg e cb 8 (ah + k) (by decide) _ (HE.out.below (HMW.out.trans HM4.out).1) a42).mono ?_
  rintro e w5 ⟨v, rfl, her5, hb⟩
  have hm5 := Mv.below HR4.out.2.1 hb
  have HM5 := Lib.hid (HM4.out.trans hm5)
  have HR5 := Lib.hid (HR0.out.mv HM5.out)
  obtain ⟨a50, a51, a52, a5z⟩ := HR5.out.facts
  have hz5 : w.heap.size < w5.heap.size := Nat.lt_of_lt_of_le hsz HM5.out.1.size
  clear hm5
  have HER := Lib.hid her5
  clear her5 hb
  have hg := (HM5.out.2.2 w.heap.size hsz (by omega)).trans HG0.out
  obtain ⟨⟨c0, c1, c2, c3, c4, c5, c6⟩, ⟨g0, g1, g2, g3, g4, g5, g6⟩, hgz⟩ := cells7 hg
  clear hg
  go_wp2
  refine bodyPost_ret (by simp [results, Tryd.results95, go_sem, c0, c1, c2, c3, c4, c5, c6]; rfl) rfl ⟨v, _, by unfold IV; rw [item_no.1, item_no.2.1, item_no.2.2.1, item_no.2.2.2]; rfl, (Mv.setOther (Mv.setOther (Mv.setOther (Mv.setOther (Mv.setOther (Mv.setOther (Mv.setOther (HMW.out.trans HM5.out) w.heap.size 0 _ (Nat.le_refl _) hcb) w.heap.size 1 _ (Nat.le_refl _) hcb) w.heap.size 2 _ (Nat.le_refl _) hcb) w.heap.size 3 _ (Nat.le_refl _) hcb) w.heap.size 4 _ (Nat.le_refl _) hcb) w.heap.size 5 _ (Nat.le_refl _) hcb) w.heap.size 6 _ (Nat.le_refl _) hcb), ?_⟩
  exact (ErrS.set (ErrS.set (ErrS.set (ErrS.set (ErrS.set (ErrS.set (ErrS.set (HER.out.lower (by omega)) w.heap.size 0 _ (by omega)) w.heap.size 1 _ (by omega)) w.heap.size 2 _ (by omega)) w.heap.size 3 _ (by omega)) w.heap.size 4 _ (by omega)) w.heap.size 5 _ (by omega)) w.heap.size 6 _ (by omega))
set_option maxRecDepth 100000 in
set_option maxHeartbeats 8000000 in
theorem itx_cls (cf : ByteArray → (Nat → Bool) × Bool) (hcf : ClassOk cf) (e : Nat → Addr) (rb cb : Nat) (s : ByteArray) (k ah : Nat) (lg : Int) (hb47 : s.size ≤ 140737488351232) (w : World) (he : Es w cb e) (h : Rdr w rb cb s k ah lg) (h1 : atB s k = 91) (h2 : atB s (k + 1) = 58) (hc : (cf (cnN s (k + 2))).2 = true) :
    Calls Tryd.prog 95 #[.pointer (some ⟨rb, 0, none⟩)] w fun x w' => x = .returned (.tuple #[IV (ah + k) true (cf (cnN s (k + 2))).1 0, .nilIface]) ∧ ∃ k', Mv cb s k' w w' ∧ ∀ y, cnE s (s.size - (k + 2)) (k + 2) = some y → k' = y + 2 := by
  have HH := Lib.hid h
  have HE := Lib.hid he
  have HCF := Lib.hid hcf
  have HP : Hid (∀ (j : Nat) (w' : World), Rdr w' rb cb s j ah lg → Calls Tryd.prog 55 #[.pointer (some ⟨rb, 0, none⟩)] w' fun e w'' => e = .returned (.int .i64 (ah + j : Nat)) ∧ Mv cb s j w' w'') := Lib.hid fun j w' h' => place_any rb cb s j ah lg w' h'
  have HT58 : Hid (∀ w', Cur w' cb s k → Calls Tryd.prog 78 #[.pointer (some ⟨cb, 0, none⟩), .string ⟨#[91, 58]⟩] w' fun e w'' => e = .returned (.bool true) ∧ Mv cb s (k + 2) w' w'') := Lib.hid fun w' h' => take2_yes cb k s 91 58 w' h' (by decide) (by decide) h1 h2
  have HC : ∀ w, Hid (Calls Tryd.prog 117 #[.string (cnN s (k + 2))] w fun e w' => e = .returned (.tuple #[SV (cf (cnN s (k + 2))).1, .bool true]) ∧ Below w.heap.size w w') := fun w => Lib.hid (by have := hcf.prog (cnN s (k + 2)) w; rwa [hc] at this)
  have HCN : Hid (∀ w', Rdr w' rb cb s (k + 2) ah lg → Calls Tryd.prog 118 #[.pointer (some ⟨rb, 0, none⟩)] w' fun e w'' => ∃ k', e = .returned (.string (cnN s (k + 2))) ∧ Mv cb s k' w' w'' ∧ (∀ x, cnE s (s.size - (k + 2)) (k + 2) = some x → k' = x + 2)) := Lib.hid fun w' h' => cname_any rb cb s (k + 2) ah lg w' hb47 h'
  clear h1 h2 hc
  generalize (cf (cnN s (k + 2))).1 = p at *
  generalize cnN s (k + 2) = nm at *
  clear h he hcf 
  go_enter Tryd.func95, Tryd.ntmps95
  go_wp2_with fail
  obtain ⟨W, hW⟩ : ∃ W, W = w.alloc (.cells #[.int .i64 0, .bool false, .int .u64 0, .int .u64 0, .int .u64 0, .int .u64 0, .int .u8 0] 139) := ⟨_, rfl⟩
  rw [← hW]
  have HMW : Hid (Mv cb s k w W) := Lib.hid (by rw [hW]; exact Mv.below HH.out.2.1 ((Below.refl _ _).alloc (Nat.le_refl _) _))
  have HG0 : Hid (W.heap[w.heap.size]? = some (.cells #[.int .i64 0, .bool false, .int .u64 0, .int .u64 0, .int .u64 0, .int .u64 0, .int .u8 0] 139)) := Lib.hid (by rw [hW]; exact alloc_last w _)
  have hsz : w.heap.size < W.heap.size := by rw [hW]; simp
  clear hW
  have hcb := HH.out.lt.2
  have HR0 := Lib.hid (HH.out.mv HMW.out)
  have HM0 := Lib.hid (Mv.refl HR0.out.2.1)
  refine (HP.out k _ HR0.out).mono ?_
  rintro e w1 ⟨rfl, hm1⟩
  have HM1 := Lib.hid (HM0.out.trans hm1)
  have HR1 := Lib.hid (HR0.out.mv HM1.out)
  obtain ⟨a10, a11, a12, a1z⟩ := HR1.out.facts
  have hz1 : w.heap.size < w1.heap.size := Nat.lt_of_lt_of_le hsz HM1.out.1.size
  clear hm1
  go_wp2_with fail
  refine (HT58.out _ HR1.out.2.1).mono ?_
  rintro e w2 ⟨rfl, hm2⟩
  have HM2 := Lib.hid (HM1.out.trans hm2)
  have HR2 := Lib.hid (HR0.out.mv HM2.out)
  obtain ⟨a20, a21, a22, a2z⟩ := HR2.out.facts
  have hz2 : w.heap.size < w2.heap.size := Nat.lt_of_lt_of_le hsz HM2.out.1.size
  clear hm2
  go_wp2_with fail
  refine (HCN.out _ HR2.out).mono ?_
  rintro e w3 ⟨k', rfl, hm3, hk'⟩
  have HM3 := Lib.hid (HM2.out.trans hm3)
  have HR3 := Lib.hid (HR0.out.mv HM3.out)
  obtain ⟨a30, a31, a32, a3z⟩ := HR3.out.facts
  have hz3 : w.heap.size < w3.heap.size := Nat.lt_of_lt_of_le hsz HM3.out.1.size
  clear hm3
  have HKK := Lib.hid hk'
  clear hk'
  go_wp2_with fail
  refine ((HC _).out).mono ?_
  rintro e w4 ⟨rfl, hb⟩
  have hm4 := Mv.below HR3.out.2.1 hb
  have HM4 := Lib.hid (HM3.out.trans hm4)
  have HR4 := Lib.hid (HR0.out.mv HM4.out)
  obtain ⟨a40, a41, a42, a4z⟩ := HR4.out.facts
  have hz4 : w.heap.size < w4.heap.size := Nat.lt_of_lt_of_le hsz HM4.out.1.size
  clear hm4
  clear hb
  unfold SV
  have hg := (HM4.out.2.2 w.heap.size hsz (by omega)).trans HG0.out
  obtain ⟨⟨c0, c1, c2, c3, c4, c5, c6⟩, ⟨g0, g1, g2, g3, g4, g5, g6⟩, hgz⟩ := cells7 hg
  clear hg
  go_wp2
  refine bodyPost_ret (by simp [results, Tryd.results95, go_sem, c0, c1, c2, c3, c4, c5, c6, hgz]; rfl) rfl ⟨by unfold IV; rfl, k', Mv.alo (Mv.setOther (Mv.setOther (Mv.setOther (Mv.setOther (Mv.setOther (Mv.setOther (Mv.setOther (HMW.out.trans HM4.out) w.heap.size 0 _ (Nat.le_refl _) hcb) w.heap.size 1 _ (Nat.le_refl _) hcb) w.heap.size 2 _ (Nat.le_refl _) hcb) w.heap.size 3 _ (Nat.le_refl _) hcb) w.heap.size 4 _ (Nat.le_refl _) hcb) w.heap.size 5 _ (Nat.le_refl _) hcb) w.heap.size 6 _ (Nat.le_refl _) hcb) _, HKK.out⟩
set_option maxRecDepth 100000 in
set_option maxHeartbeats 8000000 in
theorem itx_nocls (cf : ByteArray → (Nat → Bool) × Bool) (hcf : ClassOk cf) (e : Nat → Addr) (rb cb : Nat) (s : ByteArray) (k ah : Nat) (lg : Int) (hb47 : s.size ≤ 140737488351232) (w : World) (he : Es w cb e) (h : Rdr w rb cb s k ah lg) (h1 : atB s k = 91) (h2 : atB s (k + 1) = 58) (hc : (cf (cnN s (k + 2))).2 = false) :
    Calls Tryd.prog 95 #[.pointer (some ⟨rb, 0, none⟩)] w fun x w' => ∃ v k', x = .returned (.tuple #[IV 0 false noP 0, v]) ∧ Mv cb s k' w w' ∧ ErrS w' (w.heap.size + 1) e lg 8 (ah + k : Nat) v := by
  have HH := Lib.hid h
  have HE := Lib.hid he
  have HCF := Lib.hid hcf
  have HP : Hid (∀ (j : Nat) (w' : World), Rdr w' rb cb s j ah lg → Calls Tryd.prog 55 #[.pointer (some ⟨rb, 0, none⟩)] w' fun e w'' => e = .returned (.int .i64 (ah + j : Nat)) ∧ Mv cb s j w' w'') := Lib.hid fun j w' h' => place_any rb cb s j ah lg w' h'
  have HT58 : Hid (∀ w', Cur w' cb s k → Calls Tryd.prog 78 #[.pointer (some ⟨cb, 0, none⟩), .string ⟨#[91, 58]⟩] w' fun e w'' => e = .returned (.bool true) ∧ Mv cb s (k + 2) w' w'') := Lib.hid fun w' h' => take2_yes cb k s 91 58 w' h' (by decide) (by decide) h1 h2
  have HC : ∀ w, Hid (Calls Tryd.prog 117 #[.string (cnN s (k + 2))] w fun e w' => e = .returned (.tuple #[SV (cf (cnN s (k + 2))).1, .bool false]) ∧ Below w.heap.size w w') := fun w => Lib.hid (by have := hcf.prog (cnN s (k + 2)) w; rwa [hc] at this)
  have HCN : Hid (∀ w', Rdr w' rb cb s (k + 2) ah lg → Calls Tryd.prog 118 #[.pointer (some ⟨rb, 0, none⟩)] w' fun e w'' => ∃ k', e = .returned (.string (cnN s (k + 2))) ∧ Mv cb s k' w' w'' ∧ (∀ x, cnE s (s.size - (k + 2)) (k + 2) = some x → k' = x + 2)) := Lib.hid fun w' h' => cname_any rb cb s (k + 2) ah lg w' hb47 h'
  clear h1 h2 hc
  generalize (cf (cnN s (k + 2))).1 = p at *
  generalize cnN s (k + 2) = nm at *
  clear h he hcf 
  go_enter Tryd.func95, Tryd.ntmps95
  go_wp2_with fail
  obtain ⟨W, hW⟩ : ∃ W, W = w.alloc (.cells #[.int .i64 0, .bool false, .int .u64 0, .int .u64 0, .int .u64 0, .int .u64 0, .int .u8 0] 139) := ⟨_, rfl⟩
  rw [← hW]
  have HMW : Hid (Mv cb s k w W) := Lib.hid (by rw [hW]; exact Mv.below HH.out.2.1 ((Below.refl _ _).alloc (Nat.le_refl _) _))
  have HG0 : Hid (W.heap[w.heap.size]? = some (.cells #[.int .i64 0, .bool false, .int .u64 0, .int .u64 0, .int .u64 0, .int .u64 0, .int .u8 0] 139)) := Lib.hid (by rw [hW]; exact alloc_last w _)
  have hsz : w.heap.size < W.heap.size := by rw [hW]; simp
  clear hW
  have hcb := HH.out.lt.2
  have HR0 := Lib.hid (HH.out.mv HMW.out)
  have HM0 := Lib.hid (Mv.refl HR0.out.2.1)
  refine (HP.out k _ HR0.out).mono ?_
  rintro e w1 ⟨rfl, hm1⟩
  have HM1 := Lib.hid (HM0.out.trans hm1)
  have HR1 := Lib.hid (HR0.out.mv HM1.out)
  obtain ⟨a10, a11, a12, a1z⟩ := HR1.out.facts
  have hz1 : w.heap.size < w1.heap.size := Nat.lt_of_lt_of_le hsz HM1.out.1.size
  clear hm1
  go_wp2_with fail
  refine (HT58.out _ HR1.out.2.1).mono ?_
  rintro e w2 ⟨rfl, hm2⟩
  have HM2 := Lib.hid (HM1.out.trans hm2)
  have HR2 := Lib.hid (HR0.out.mv HM2.out)
  obtain ⟨a20, a21, a22, a2z⟩ := HR2.out.facts
  have hz2 : w.heap.size < w2.heap.size := Nat.lt_of_lt_of_le hsz HM2.out.1.size
  clear hm2
  go_wp2_with fail
  refine (HCN.out _ HR2.out).mono ?_
  rintro e w3 ⟨k', rfl, hm3, hk'⟩
  have HM3 := Lib.hid (HM2.out.trans hm3)
  have HR3 := Lib.hid (HR0.out.mv HM3.out)
  obtain ⟨a30, a31, a32, a3z⟩ := HR3.out.facts
  have hz3 : w.heap.size < w3.heap.size := Nat.lt_of_lt_of_le hsz HM3.out.1.size
  clear hm3
  have HKK := Lib.hid hk'
  clear hk'
  go_wp2_with fail
  refine ((HC _).out).mono ?_
  rintro e w4 ⟨rfl, hb⟩
  have hm4 := Mv.below HR3.out.2.1 hb
  have HM4 := Lib.hid (HM3.out.trans hm4)
  have HR4 := Lib.hid (HR0.out.mv HM4.out)
  obtain ⟨a40, a41, a42, a4z⟩ := HR4.out.facts
  have hz4 : w.heap.size < w4.heap.size := Nat.lt_of_lt_of_le hsz HM4.out.1.size
  clear hm4
  clear hb
  unfold SV
  obtain ⟨V, hV⟩ : ∃ V, V = w4.alloc (.cells #[.int .u64 (sw p 0 : Nat), .int .u64 (sw p 1 : Nat), .int .u64 (sw p 2 : Nat), .int .u64 (sw p 3 : Nat)] 53) := ⟨_, rfl⟩
  have HMV := Lib.hid (HM4.out.alo (.cells #[.int .u64 (sw p 0 : Nat), .int .u64 (sw p 1 : Nat), .int .u64 (sw p 2 : Nat), .int .u64 (sw p 3 : Nat)] 53))
  rw [← hV] at HMV
  have HRV := Lib.hid (HR0.out.mv HMV.out)
  obtain ⟨b0, b1, b2, bz⟩ := HRV.out.facts
  have hzV : w.heap.size < V.heap.size := Nat.lt_of_lt_of_le hsz HMV.out.1.size
  go_wp2_with fail
  rw [← hV]
  refine (refuse_any rb lg e cb 8 (ah + k) (by decide) _ (HE.out.below (HMW.out.trans HMV.out).1) b2).mono ?_
  rintro x wf ⟨v, rfl, her, hb⟩
  have HMF := Lib.hid (HMV.out.trans (Mv.below HRV.out.2.1 hb))
  have HER := Lib.hid her
  have hzF : w.heap.size < wf.heap.size := Nat.lt_of_lt_of_le hsz HMF.out.1.size
  clear her hb hV
  have hg := (HMF.out.2.2 w.heap.size hsz (by omega)).trans HG0.out
  obtain ⟨⟨c0, c1, c2, c3, c4, c5, c6⟩, ⟨g0, g1, g2, g3, g4, g5, g6⟩, hgz⟩ := cells7 hg
  clear hg
  go_wp2
  refine bodyPost_ret (by simp [results, Tryd.results95, go_sem, c0, c1, c2, c3, c4, c5, c6]; rfl) rfl ⟨v, _, by unfold IV; rw [item_no.1, item_no.2.1, item_no.2.2.1, item_no.2.2.2]; rfl, (Mv.setOther (Mv.setOther (Mv.setOther (Mv.setOther (Mv.setOther (Mv.setOther (Mv.setOther (HMW.out.trans HMF.out) w.heap.size 0 _ (Nat.le_refl _) hcb) w.heap.size 1 _ (Nat.le_refl _) hcb) w.heap.size 2 _ (Nat.le_refl _) hcb) w.heap.size 3 _ (Nat.le_refl _) hcb) w.heap.size 4 _ (Nat.le_refl _) hcb) w.heap.size 5 _ (Nat.le_refl _) hcb) w.heap.size 6 _ (Nat.le_refl _) hcb), ?_⟩
  exact (ErrS.set (ErrS.set (ErrS.set (ErrS.set (ErrS.set (ErrS.set (ErrS.set (HER.out.lower (by omega)) w.heap.size 0 _ (by omega)) w.heap.size 1 _ (by omega)) w.heap.size 2 _ (by omega)) w.heap.size 3 _ (by omega)) w.heap.size 4 _ (by omega)) w.heap.size 5 _ (by omega)) w.heap.size 6 _ (by omega))

/-- What the reader's item tells. -/
def ItemPost (cf : ByteArray → (Nat → Bool) × Bool) (e : Nat → Addr) (cb : Nat) (s : ByteArray) (k ah : Nat) (lg : Int) (w : World) (x : Ending) (w' : World) : Prop :=
  match itemR cf s (decide (lg = 2)) k with
  | .byt c nx => x = .returned (.tuple #[IV (ah + k) false noP c, .nilIface]) ∧ Mv cb s nx w w'
  | .cls p nx => x = .returned (.tuple #[IV (ah + k) true p 0, .nilIface]) ∧ Mv cb s nx w w'
  | .bad pos => ∃ v k', x = .returned (.tuple #[IV 0 false noP 0, v]) ∧ Mv cb s k' w w' ∧ ErrS w' (w.heap.size + 1) e lg 8 (ah + pos : Nat) v
theorem item_any (cf : ByteArray → (Nat → Bool) × Bool) (hcf : ClassOk cf) (e : Nat → Addr) (rb cb : Nat) (s : ByteArray) (k ah : Nat) (lg : Int) (hb47 : s.size ≤ 140737488351232) (w : World) (he : Es w cb e) (h : Rdr w rb cb s k ah lg) :
    Calls Tryd.prog 95 #[.pointer (some ⟨rb, 0, none⟩)] w (ItemPost cf e cb s k ah lg w) := by
  have hks := h.2.1.2.1
  unfold ItemPost itemR
  by_cases c1 : atB s k = 91 ∧ atB s (k + 1) = 58
  · rw [if_pos c1]
    cases hE : cnE s (s.size - (k + 2)) (k + 2) with
    | none =>
      have hN : cnN s (k + 2) = ⟨#[]⟩ := by unfold cnN; rw [hE]
      exact itx_nocls cf hcf e rb cb s k ah lg hb47 w he h c1.1 c1.2 (by rw [hN]; exact hcf.empty)
    | some y =>
      have hN : cnN s (k + 2) = s.extract (k + 2) y := by unfold cnN; rw [hE]
      simp only
      rw [← hN]
      cases hc : (cf (cnN s (k + 2))).2 with
      | true =>
        rw [if_pos rfl]
        refine (itx_cls cf hcf e rb cb s k ah lg hb47 w he h c1.1 c1.2 hc).mono ?_
        rintro x w' ⟨rfl, k', hm, hk'⟩
        rw [hk' y hE] at hm
        exact ⟨rfl, hm⟩
      | false =>
        rw [if_neg (by decide)]
        exact itx_nocls cf hcf e rb cb s k ah lg hb47 w he h c1.1 c1.2 hc
  rw [if_neg c1]
  by_cases c2 : atB s k = 91 ∧ (atB s (k + 1) = 46 ∨ atB s (k + 1) = 61)
  · rw [if_pos c2]
    rcases c2.2 with h2 | h2
    · exact itx_dot cf hcf e rb cb s k ah lg w he h c2.1 h2
    · exact itx_eq cf hcf e rb cb s k ah lg w he h c2.1 h2
  rw [if_neg c2]
  have n2 : ¬ (atB s k = 91 ∧ atB s (k + 1) = 46) := fun h => c2 ⟨h.1, Or.inl h.2⟩
  have n3 : ¬ (atB s k = 91 ∧ atB s (k + 1) = 61) := fun h => c2 ⟨h.1, Or.inr h.2⟩
  by_cases hlg : lg = 2
  · by_cases c3 : atB s k = 92
    · rw [if_pos ⟨by simpa using hlg, c3⟩]
      by_cases hk : k + 1 < s.size
      · rw [if_pos hk]
        exact itx_esc cf hcf e rb cb s k ah lg w he h hlg hk c3
      · rw [if_neg hk]
        exact itx_ende cf hcf e rb cb s k ah lg w he h hlg hk c3
    · rw [if_neg (fun h => c3 h.2)]
      by_cases hk : k < s.size
      · rw [if_pos hk]
        exact itx_glob cf hcf e rb cb s k ah lg w he h hlg hk c1 n2 n3 c3
      · rw [if_neg hk]
        exact itx_endg cf hcf e rb cb s k ah lg w he h hlg hk c1 n2 n3 c3
  · rw [if_neg (fun h => hlg (by simpa using h.1))]
    by_cases hk : k < s.size
    · rw [if_pos hk]
      exact itx_byte cf hcf e rb cb s k ah lg w he h hlg hk c1 n2 n3
    · rw [if_neg hk]
      exact itx_end cf hcf e rb cb s k ah lg w he h hlg hk c1 n2 n3

end Go.Proofs.YtopnckfmdjhbjaaDoor
