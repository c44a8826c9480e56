/- The contracts of read and Parse. -/
import Derived.Test.YtlmoeldillpamaaDoorArRead
import Derived.Recover
namespace Go.Proofs.YtlmoeldillpamaaDoor
open Go.RowKit

/-- What reading the whole text tells, by so many calls. -/
def readP (l : List Int) (n : Nat) : Option Rs :=
  match rd l n .expr (tok l 0) with
  | some (.ok t t1) => if t1.kind = 0 then some (.ok t t1) else some (refuse t1)
  | r => r

/-- What the calling function finds: a tree, new in memory; or the panic. -/
def Got (s : Nat → Addr) (lo : Nat) : Rs → Ending → World → Prop
  | .ok t _, e, w' => ∃ o m, e = .returned (.agg #[.string t.op, .int .i64 t.val, .string t.nm, .int .i64 t.pos, .int .i64 t.apos, .slice o m m]) ∧ t.In w' lo (.slice o m m)
  | .bad c p, e, w' => Bad s c p e w'

def rdO (bv : Value) (t : Tk) : Obj := .cells #[bv, .int .i64 t.kind, .int .i64 t.start, .int .i64 t.stop, .string t.text, .int .i64 t.num, .bool t.over] 79

theorem sl_lt {w : World} {v : Value} {l : List Int} (h : Sl w v l) : (∃ a cap, v = .slice a 0 cap ∧ l = []) ∨ ∀ x o n cap, v = .slice (some ⟨x, o, none⟩) n cap → x < w.heap.size := by
  obtain ⟨hy, hl, ⟨rfl, a, cap, rfl⟩ | ⟨b, o, cap, rfl, hcl, hcm, hr⟩⟩ := h
  · exact Or.inl ⟨a, cap, rfl, rfl⟩
  · by_cases h0 : l.length = 0
    · left; exact ⟨some ⟨b, o, none⟩, cap, by rw [h0], List.length_eq_zero_iff.1 h0⟩
    · right
      intro x o' n cap' he
      simp only [Value.slice.injEq, Option.some.injEq, Addr.mk.injEq, and_true] at he
      obtain ⟨⟨rfl, _⟩, _, _⟩ := he
      have hc := hr 0 (by omega)
      rcases Nat.lt_or_ge b w.heap.size with h' | h'
      · exact h'
      · simp [World.cell?, Array.getElem?_eq_none h'] at hc

set_option maxRecDepth 100000 in
set_option maxHeartbeats 4000000 in
theorem read_any (v : Value) (l : List Int) (n : Nat) (res : Rs) (s : Nat → Addr) (w : World) (h : readP l n = some res) (hs : Sl w v l) (he : Er w s) :
    Calls Tryd.prog 17 #[v] w fun e w' => Got s w.heap.size res e w' ∧ Below w.heap.size w w' := by
  obtain ⟨oa, n0, cap, rfl⟩ : ∃ oa n cap, v = .slice oa n cap := by
    obtain ⟨hy, hl, ⟨rfl, a, cap, rfl⟩ | ⟨b, o, cap, rfl, hcl, hcm, hr⟩⟩ := hs
    · exact ⟨_, _, _, rfl⟩
    · exact ⟨_, _, _, rfl⟩
  obtain ⟨t0, ht0⟩ : ∃ t0, tok l 0 = t0 := ⟨_, rfl⟩
  have HT : Hid (∀ W, Below w.heap.size w W → Calls Tryd.prog 32 #[.slice oa n0 cap, .int .i64 0] W fun e w' => e = .returned (.agg #[.int .i64 t0.kind, .int .i64 t0.start, .int .i64 t0.stop, .string t0.text, .int .i64 t0.num, .bool t0.over]) ∧ Below W.heap.size W w') := Lib.hid (fun W hW => tokenAt_ex _ l 0 t0 ht0 W (hs.below hW) (Nat.zero_le _))
  have HB : Hid (∀ o, Below w.heap.size w (w.alloc o)) := Lib.hid (fun o => (Below.refl _ _).alloc (Nat.le_refl _) o)
  have HS := Lib.hid hs
  have HE := Lib.hid he
  have hlow := he.low
  have hst0 : t0.stop ≤ l.length := by rw [← ht0]; exact tok_stop l 0 (Nat.zero_le _)
  unfold readP at h
  rw [ht0] at h
  have HH := Lib.hid h
  have hap : ∀ x o n c, Value.slice oa n0 cap = .slice (some ⟨x, o, none⟩) n c → l = [] ∨ x < w.heap.size := fun x o n c e => by
    rcases sl_lt hs with ⟨a, c', e', hl⟩ | h'
    · exact Or.inl hl
    · exact Or.inr (h' x o n c e)
  have HAp := Lib.hid hap
  clear hs he ht0 h hap
  go_enter Tryd.func17, Tryd.ntmps17
  go_wp2_with fail
  refine (HT.out _ (HB.out _)).mono ?_
  rintro e w1 ⟨rfl, hb1⟩
  have HB1 : Hid (Below w.heap.size w w1) := Lib.hid ((HB.out _).trans (hb1.mono (by simp)))
  have HR1 : Hid (w1.heap[w.heap.size]? = some zrO) := Lib.hid ((hb1.block _ (by simp)).trans (heap_alloc_last w _))
  clear hb1
  go_wp2_with fail
  have hs1 := HB1.out.size
  have HY : Hid (Rdy l w1.heap.size (.slice oa n0 cap) s t0 (w1.alloc (rdO (.slice oa n0 cap) t0))) := Lib.hid {
    rd := heap_alloc_last w1 _
    cx := {
      sl := (HS.out.below HB1.out).below ((Below.refl _ _).alloc (Nat.le_refl _) _)
      ap := fun x o n c e => by
        rcases HAp.out x o n c e with h' | h'
        · exact Or.inl h'
        · right; omega
      er := (HE.out.below HB1.out).below ((Below.refl _ _).alloc (Nat.le_refl _) _)
      hi := by omega }
    st := hst0 }
  have hR1 := lt_of_heap HR1.out
  have HR0 : Hid ((w1.alloc (rdO (.slice oa n0 cap) t0)).heap[w.heap.size]? = some zrO) := Lib.hid (alloc_keeps HR1.out _)
  have HB2 : Hid (Below w.heap.size w (w1.alloc (rdO (.slice oa n0 cap) t0))) := Lib.hid (HB1.out.alloc hs1 _)
  obtain ⟨r, hr⟩ : ∃ r, rd l n .expr t0 = r := ⟨_, rfl⟩
  have hh := HH.out
  rw [hr] at hh
  clear HH
  match r, hr, hh with
  | none, _, hh => cases hh
  | some (.bad c p), hr, hh =>
    cases hh
    have HX := Lib.hid ((rd_any l w1.heap.size (.slice oa n0 cap) s n n (Nat.le_refl _)).expr t0 _ _ hr HY.out)
    clear hr
    refine HX.out.mono ?_
    rintro e w2 ⟨⟨v, rfl, he⟩, hch⟩
    exact ⟨rfl, ⟨_, rfl, he⟩, HB2.out.trans (hch.1.mono hs1)⟩
  | some (.ok tr t1), hr, hh =>
    have HX := Lib.hid ((rd_any l w1.heap.size (.slice oa n0 cap) s n n (Nat.le_refl _)).expr t0 _ _ hr HY.out)
    have HHH := Lib.hid hh
    have hst1 := rd_stop l n _ t0 t1 tr hr hst0
    clear hr hh
    refine HX.out.mono ?_
    rintro e w2 ⟨⟨ka, rfl, hin, hrd⟩, hch⟩
    obtain ⟨o, m, rfl⟩ := hin.shape
    have HIN : Hid (tr.In w2 (w.heap.size + 1) (.slice o m m)) := Lib.hid (hin.mono (by simp; omega) _ _)
    have HRD := Lib.hid hrd
    have HBe : Hid (Below w.heap.size w w2) := Lib.hid (HB2.out.trans (hch.1.mono hs1))
    have HR2 : Hid (w2.heap[w.heap.size]? = some zrO) := Lib.hid ((hch.2 _ (lt_of_heap HR0.out) (by omega)).trans HR0.out)
    have hR2 := lt_of_heap HR2.out
    obtain ⟨⟨c0, c1, c2, c3, c4, c5, c6⟩, _, hb⟩ := hrd.facts
    have HYe : Hid (Rdy l w1.heap.size (.slice oa n0 cap) s t1 w2) := Lib.hid (HY.out.ch hch hrd hst1)
    clear hin hrd hch HY HX
    have HZ : Hid (∀ o, (w2.alloc o).heap[w.heap.size]? = some zrO) := Lib.hid (fun o => alloc_keeps HR2.out o)
    by_cases hk : t1.kind = 0
    · have hh := HHH.out
      simp only [hk, if_true] at hh
      cases hh
      rw [hk] at c1
      clear HHH hk
      go_wp2_with (refine wpList_store_ar rfl _ _ rfl rfl w.heap.size tr.op tr.val tr.nm tr.pos tr.apos _ HIN.out.one rfl rfl _ (HZ.out _) rfl ?_)
      exact bodyPost_ret (results_ar rfl _ _ w.heap.size _ rfl (setRow_self (HZ.out _) _) rfl) rfl ⟨⟨_, _, rfl, ((HIN.out.kept (fun k _ hk => alloc_at_old _ _ k hk) tr _).setRow (by omega) _).mono (by omega) _ _⟩, below_setRow (HBe.out.alloc (by omega) _) (Nat.le_refl _) _⟩
    · have hh := HHH.out
      simp only [hk, if_false] at hh
      cases hh
      have e1 : (t1.kind == 0) = false := by simpa using hk
      have e2 : (t1.kind != 0) = true := by simpa using hk
      have HN : Hid (∀ o, Calls Tryd.prog 34 #[.pointer (some ⟨w1.heap.size, 0, none⟩)] (w2.alloc o) fun e w' => Bad s t1.code t1.start e w' ∧ Below (w2.alloc o).heap.size (w2.alloc o) w') := Lib.hid (fun o => refuse_any w1.heap.size _ t1 s _ (HRD.out.alloc o) (HYe.out.cx.er.below ((Below.refl _ _).alloc (Nat.le_refl _) _)))
      clear HHH hk
      go_wp2_with fail
      refine (HN.out _).mono ?_
      rintro e w3 ⟨⟨v, rfl, he⟩, hb3⟩
      exact ⟨rfl, ⟨_, rfl, he⟩, (HBe.out.alloc (by omega) _).trans (hb3.mono (by simp; omega))⟩
end Go.Proofs.YtlmoeldillpamaaDoor
