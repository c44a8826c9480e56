/- KWr: several texts in one (kmerge.py). -/
import Derived.Test.YthpmkpnndbjflaaGreatDoorKPa
import Derived.Test.YthpmkpnndbjflaaGreatDoorProg
import Derived.Lib.Hide
import Derived.Outline
import Derived.WalkKit
import Derived.Lib.Builder
import Derived.Lib.AppendStr
import Derived.Lib.UnsafeStr
import Derived.Laws.Externs
import Derived.Laws.IdiomCopy
import Derived.Lib.ItoaMem
import Derived.Lib.AppendIntMem
import Derived.Lib.SmallJoins
import Derived.Deep.LoopGhost
/- The contract of write: an expression's text goes into a Builder. -/
namespace Go.Proofs.YthpmkpnndbjflaaGreatDoor
open Go.RowKit

/-- The table that the texts of numbers read. -/
def TP (w : World) : Prop := Lib.TabIs Tryz.prog w "internal/strconv.uint64pow10" .u64 Lib.pow10Tab
theorem TP.below {W0 w : World} (h : TP W0) (hb : Below W0.heap.size W0 w) : TP w := Go.Joins.tab_stays (g := 23) (by kernel_rfl) h hb (Nat.le_refl _)

set_option maxRecDepth 100000 in
set_option maxHeartbeats 4000000 in
theorem scText_any (n : Int) (w : World) (h0 : -9223372036854775808 ≤ n) (h1 : n ≤ 9223372036854775807) (h : TP w) :
    Calls Tryz.prog 91 #[.int .i64 n] w fun e w' => e = .returned (.string ⟨(Lib.itoa n).toArray⟩) ∧ Below w.heap.size w w' := by
  have HF := Lib.hid (Tryz.strconv_FormatInt_10 n h0 h1 w h)
  clear h
  go_enter Tryz.func91, Tryz.ntmps91
  go_wp2_with fail
  refine HF.out.mono ?_
  rintro e w1 ⟨rfl, k, os, hw⟩
  have HB : Hid (Below w.heap.size w w1) := Lib.hid (by rw [hw]; exact Lib.below_grow w.heap.size w (Nat.le_refl _) k os)
  clear hw
  go_wp2
  go_ret
  exact ⟨rfl, HB.out⟩

/-- A tree as write takes it: its names are names, its operators operators. -/
def Tr.Wf : Tr → Prop
  | .num n _ => -9223372036854775808 ≤ n ∧ n ≤ 9223372036854775807
  | .name _ _ => True
  | .un op _ a => (op ≠ sNum ∧ op ≠ sName ∧ op ≠ sEmpty) ∧ a.Wf
  | .bin op _ a b => (op ≠ sNum ∧ op ≠ sName ∧ op ≠ sEmpty) ∧ a.Wf ∧ b.Wf
  | .cond op _ a b c => (op ≠ sNum ∧ op ≠ sName ∧ op ≠ sEmpty) ∧ a.Wf ∧ b.Wf ∧ c.Wf
  | .asg op s _ _ a => (op ≠ sNum ∧ op ≠ sName ∧ op ≠ sEmpty) ∧ s ≠ sEmpty ∧ a.Wf
theorem owns_below {w w' : World} {B : Nat} {e : TypeId} {k : Nat} {v : Value} {n : Nat} {xs : List Value} (h : w.ownsRow B e k v n xs) (hb : Below w.heap.size w w') : w'.ownsRow B e k v n xs := by
  obtain ⟨h1, h2⟩ := h
  refine ⟨h1, ?_⟩
  rcases h2 with h2 | ⟨g, cap, cur, hv, hB, hg, hr⟩
  · exact Or.inl h2
  · exact Or.inr ⟨g, cap, cur, hv, hB, (hb.block g (lt_of_heap hg)).trans hg, hr⟩
end Go.Proofs.YthpmkpnndbjflaaGreatDoor
/- Plain facts: the trees that reading tells are well made. No program. -/
namespace Go.Proofs.YthpmkpnndbjflaaGreatDoor

/-- A token's constant and name. -/
structure Tk.Nm (t : Tk) : Prop where
  lo : 0 ≤ t.num
  hi : t.num ≤ 9223372036854775807
  nm : t.kind = 3 → ¬ t.text = sEmpty

theorem z_max : (0 : Int) ≤ 9223372036854775807 := by decide
theorem gV_bd (b : Int) (l : List Int) : 0 ≤ gV b l ∧ gV b l ≤ 9223372036854775807 := by
  unfold gV
  split
  · rename_i h
    unfold rV cut
    have := valK_nonneg b (by omega) l (rN b l) (pre_le _ _)
    split <;> omega
  · omega
theorem cV_bd (l : List Int) : 0 ≤ cV l ∧ cV l ≤ 9223372036854775807 := by unfold cV; split <;> exact gV_bd _ _

theorem tok_nm (l : List Int) (p : Nat) : (tok l p).Nm := by
  unfold tok
  generalize skipN l p = q
  generalize l.drop q = r
  by_cases h0 : r.length = 0
  · have e : tokL r q = ⟨0, q, q, sEmpty, 0, false⟩ := by unfold tokL; rw [if_pos h0]
    rw [e]
    exact ⟨Int.le_refl 0, z_max, by intro h; simp at h⟩
  have h0 : 0 < r.length := by omega
  by_cases h1 : 0 < nmN r
  · rw [tk_nm h0 h1]
    refine ⟨Int.le_refl 0, z_max, fun _ h => ?_⟩
    have hs := congrArg ByteArray.size h
    have := nmN_le r
    rw [show (Tk.text ⟨3, q, q + nmN r, ofBys (r.take (nmN r)), 0, false⟩) = ofBys (r.take (nmN r)) from rfl, ofBys_size, List.length_take] at hs
    have : sEmpty.size = 0 := rfl
    omega
  by_cases h2 : 0 < cN r
  · rw [tk_cn h0 h1 h2]
    obtain ⟨a, b⟩ := cV_bd r
    exact ⟨a, b, by intro h; simp at h⟩
  by_cases h3 : opB r = sEmpty
  · rw [tk_no h0 h1 h2 h3]
    exact ⟨Int.le_refl 0, z_max, by intro h; simp at h⟩
  · rw [tk_op h0 h1 h2 h3]
    exact ⟨Int.le_refl 0, z_max, by intro h; simp at h⟩

theorem strN_op {s : ByteArray} {k : Nat} (hk : 1 ≤ k) (h : k ≤ strN s) : s ≠ sNum ∧ s ≠ sName ∧ s ≠ sEmpty := by
  refine ⟨?_, ?_, strN_txt hk h⟩
  · rintro rfl
    have : strN sNum = 0 := by decide
    omega
  · rintro rfl
    have : strN sName = 0 := by decide
    omega
theorem asgB_op {s : ByteArray} (h : asgB s = true) : s ≠ sNum ∧ s ≠ sName ∧ s ≠ sEmpty := by
  refine ⟨?_, ?_, asgB_txt h⟩
  · rintro rfl; exact absurd h (by decide)
  · rintro rfl; exact absurd h (by decide)
theorem unB_op {s : ByteArray} (h : ¬ unB s = sEmpty) : unB s ≠ sNum ∧ unB s ≠ sName ∧ unB s ≠ sEmpty := by
  refine ⟨?_, ?_, h⟩
  all_goals
    unfold unB
    split
    · rename_i c
      rcases c with rfl | rfl <;> decide
    · split
      · rename_i c
        rcases c with rfl | rfl <;> decide
      · decide

def Md.Left : Md → Prop
  | .loop _ t => t.Wf
  | _ => True

theorem rd_wf (l : List Int) : ∀ (n : Nat) (md : Md) (t : Tk), t.Nm → md.Ok → md.Left → ∀ e t', rd l n md t = some (.ok e t') → e.Wf ∧ t'.Nm
  | 0, md, t, _, _, _, e, t', h => by cases md <;> simp [rd] at h
  | n + 1, .expr, t, ht, _, _, e, t', h => by
    simp only [rd] at h
    by_cases c : t.kind = 3 ∧ asgB (tok l t.stop).text = true
    · rw [if_pos c] at h
      generalize hx : rd l n .expr (tok l (tok l t.stop).stop) = x at h
      match x, hx, h with
      | some (.ok a t1), hx, h =>
        simp only [Option.some.injEq, Rs.ok.injEq] at h
        obtain ⟨rfl, rfl⟩ := h
        obtain ⟨ha, h1⟩ := rd_wf l n .expr _ (tok_nm _ _) trivial trivial _ _ hx
        exact ⟨⟨asgB_op c.2, ht.nm c.1, ha⟩, h1⟩
    · rw [if_neg c] at h
      exact rd_wf l n .cond t ht trivial trivial _ _ h
  | n + 1, .cond, t, ht, _, _, e, t', h => by
    simp only [rd] at h
    generalize hx : rd l n (.bin 1) t = x at h
    match x, hx, h with
    | some (.ok a t1), hx, h =>
      obtain ⟨ha, h1⟩ := rd_wf l n (.bin 1) t ht (Nat.le_refl 1) trivial _ _ hx
      simp only [] at h
      by_cases c : t1.text = sQue
      · rw [if_pos c] at h
        generalize hy : rd l n .expr (tok l t1.stop) = y at h
        match y, hy, h with
        | some (.ok b t2), hy, h =>
          obtain ⟨hb, h2⟩ := rd_wf l n .expr _ (tok_nm _ _) trivial trivial _ _ hy
          simp only [] at h
          by_cases d : t2.text = sCol
          · rw [if_pos d] at h
            generalize hz : rd l n .cond (tok l t2.stop) = z at h
            match z, hz, h with
            | some (.ok f t3), hz, h =>
              obtain ⟨hf, h3⟩ := rd_wf l n .cond _ (tok_nm _ _) trivial trivial _ _ hz
              simp only [Option.some.injEq, Rs.ok.injEq] at h
              obtain ⟨rfl, rfl⟩ := h
              exact ⟨⟨by rw [c]; decide, ha, hb, hf⟩, h3⟩
          · rw [if_neg d] at h
            simp [refuse] at h
      · rw [if_neg c] at h
        simp only [Option.some.injEq, Rs.ok.injEq] at h
        obtain ⟨rfl, rfl⟩ := h
        exact ⟨ha, h1⟩
  | n + 1, .bin k, t, ht, hk, _, e, t', h => by
    simp only [rd] at h
    generalize hx : rd l n .opd t = x at h
    match x, hx, h with
    | some (.ok a t1), hx, h =>
      obtain ⟨ha, h1⟩ := rd_wf l n .opd t ht trivial trivial _ _ hx
      exact rd_wf l n (.loop k a) t1 h1 hk ha _ _ h
  | n + 1, .loop k left, t, ht, hk, hl, e, t', h => by
    simp only [rd] at h
    by_cases c : k ≤ strN t.text
    · rw [if_pos c] at h
      generalize hx : rd l n (.bin (strN t.text + 1)) (tok l t.stop) = x at h
      match x, hx, h with
      | some (.ok b t2), hx, h =>
        obtain ⟨hb, h2⟩ := rd_wf l n (.bin (strN t.text + 1)) _ (tok_nm _ _) (Nat.le_add_left 1 _) trivial _ _ hx
        exact rd_wf l n (.loop k (.bin t.text t.start left b)) t2 h2 hk ⟨strN_op hk c, hl, hb⟩ _ _ h
    · rw [if_neg c] at h
      simp only [Option.some.injEq, Rs.ok.injEq] at h
      obtain ⟨rfl, rfl⟩ := h
      exact ⟨hl, ht⟩
  | n + 1, .opd, t, ht, _, _, e, t', h => by
    simp only [rd] at h
    by_cases c2 : t.kind = 2
    · rw [if_pos c2] at h
      by_cases co : t.over = true
      · rw [if_pos co] at h; simp [refuse] at h
      · rw [if_neg co] at h
        by_cases cg : goesB l t.stop = true
        · rw [if_pos cg] at h; simp at h
        · rw [if_neg cg] at h
          simp only [Option.some.injEq, Rs.ok.injEq] at h
          obtain ⟨rfl, rfl⟩ := h
          have := ht.lo
          exact ⟨⟨by omega, ht.hi⟩, tok_nm _ _⟩
    rw [if_neg c2] at h
    by_cases c3 : t.kind = 3
    · rw [if_pos c3] at h
      simp only [Option.some.injEq, Rs.ok.injEq] at h
      obtain ⟨rfl, rfl⟩ := h
      exact ⟨trivial, tok_nm _ _⟩
    rw [if_neg c3] at h
    by_cases cu : ¬ unB t.text = sEmpty
    · rw [if_pos cu] at h
      generalize hx : rd l n .opd (tok l t.stop) = x at h
      match x, hx, h with
      | some (.ok a t1), hx, h =>
        simp only [Option.some.injEq, Rs.ok.injEq] at h
        obtain ⟨rfl, rfl⟩ := h
        obtain ⟨ha, h1⟩ := rd_wf l n .opd _ (tok_nm _ _) trivial trivial _ _ hx
        exact ⟨⟨unB_op cu, ha⟩, h1⟩
    rw [if_neg cu] at h
    by_cases cp : t.text = sOpen
    · rw [if_pos cp] at h
      generalize hx : rd l n .expr (tok l t.stop) = x at h
      match x, hx, h with
      | some (.ok a t1), hx, h =>
        obtain ⟨ha, h1⟩ := rd_wf l n .expr _ (tok_nm _ _) trivial trivial _ _ hx
        simp only [] at h
        by_cases cs : t1.text = sShut
        · rw [if_pos cs] at h
          simp only [Option.some.injEq, Rs.ok.injEq] at h
          obtain ⟨rfl, rfl⟩ := h
          exact ⟨ha, tok_nm _ _⟩
        · rw [if_neg cs] at h
          simp [refuse] at h
    · rw [if_neg cp] at h
      simp [refuse] at h

/-- A tree that Parse tells is well made, and all was read. -/
theorem readP_wf {l : List Int} {n : Nat} {e : Tr} {t : Tk} (h : readP l n = some (.ok e t)) : e.Wf ∧ t.kind = 0 := by
  unfold readP at h
  generalize hx : rd l n .expr (tok l 0) = x at h
  match x, hx, h with
  | some (.ok a t1), hx, h =>
    obtain ⟨ha, -⟩ := rd_wf l n .expr _ (tok_nm _ _) trivial trivial _ _ hx
    simp only [] at h
    by_cases c : t1.kind = 0
    · rw [if_pos c] at h
      simp only [Option.some.injEq, Rs.ok.injEq] at h
      obtain ⟨rfl, rfl⟩ := h
      exact ⟨ha, c⟩
    · rw [if_neg c] at h
      simp [refuse] at h
theorem parseP_wf {l : List Int} {n : Nat} {e : Tr} {t : Tk} (h : parseP l n = some (.ok e t)) : e.Wf ∧ t.kind = 0 ∧ l.length ≤ 1024 := by
  unfold parseP at h
  by_cases c : 1024 < l.length
  · rw [if_pos c] at h; simp at h
  · rw [if_neg c] at h
    exact ⟨(readP_wf h).1, (readP_wf h).2, by omega⟩

end Go.Proofs.YthpmkpnndbjflaaGreatDoor
/- The contract of write at an operator. -/
namespace Go.Proofs.YthpmkpnndbjflaaGreatDoor
open Go.RowKit

theorem cell_kept {W0 w : World} (hb : Below W0.heap.size W0 w) {b j : Nat} {u : Value} (h : W0.cell? ⟨b, j, none⟩ = some u) : w.cell? ⟨b, j, none⟩ = some u := by
  have hlt : b < W0.heap.size := by
    rcases Nat.lt_or_ge b W0.heap.size with h' | h'
    · exact h'
    · simp [World.cell?, Array.getElem?_eq_none h'] at h
  rw [World.cell?_of_block (w := W0) (hb.block b hlt)]
  exact h
end Go.Proofs.YthpmkpnndbjflaaGreatDoor
