/- Contracts of a cursor's methods, but for While and Until. -/
import Derived.Test.YtoodpajbefffhaaDoorScConv
import Derived.Test.YtoodpajbefffhaaDoorScDigits
import Derived.Lib.SlBytesConst
import Derived.Deep.RegionWith
import Derived.Deep.RegionHeld3
import Derived.Below
import Derived.Test.YtoodpajbefffhaaDoorScOpen
import Derived.LoopTactic
import Derived.ChangeMaps5
import Derived.Deep.QuietTactic
import Derived.BigQuiet
import Derived.Laws.BytesArg
namespace Go.Proofs.YtoodpajbefffhaaDoor
open Go.RowKit

/-- The cursor in block b: over s, at place k. -/
def Cur (w : World) (b : Nat) (s : ByteArray) (k : Nat) : Prop := w.heap[b]? = some (.cells #[.string s, .int .i64 k] 129) ∧ k ≤ s.size ∧ s.size ≤ 9223372036854775807
/-- The world behind a call of the cursor in block b: it is at place k; all else is as it was. -/
def Mv (b : Nat) (s : ByteArray) (k : Nat) (w w' : World) : Prop := Below b w w' ∧ Cur w' b s k ∧ ∀ i, i < w.heap.size → i ≠ b → w'.heap[i]? = w.heap[i]?

theorem Cur.facts {w : World} {b k : Nat} {s : ByteArray} (h : Cur w b s k) : w.cell? ⟨b, 0, none⟩ = some (.string s) ∧ w.cell? ⟨b, 1, none⟩ = some (.int .i64 k) ∧ w.frozen? ⟨b, 0, none⟩ = false ∧ w.frozen? ⟨b, 1, none⟩ = false ∧ b < w.heap.size := by
  obtain ⟨h, _, _⟩ := h
  refine ⟨by simp [World.cell?, h], by simp [World.cell?, h], by simp [World.frozen?, h], by simp [World.frozen?, h], ?_⟩
  rcases Nat.lt_or_ge b w.heap.size with h' | h'
  · exact h'
  · rw [Array.getElem?_eq_none h'] at h; cases h

theorem Mv.refl {w : World} {b k : Nat} {s : ByteArray} (h : Cur w b s k) : Mv b s k w w := ⟨Below.refl _ _, h, fun _ _ _ => rfl⟩
theorem Mv.drewN {w : World} {b k : Nat} {s : ByteArray} (h : Cur w b s k) (n : Nat) : Mv b s k w (w.drewN n) := ⟨⟨rfl, rfl, rfl, Nat.le_refl _, fun _ _ => rfl⟩, h, fun _ _ _ => rfl⟩
theorem Mv.trans {w w1 w2 : World} {b k k' : Nat} {s : ByteArray} (h : Mv b s k w w1) (h' : Mv b s k' w1 w2) : Mv b s k' w w2 :=
  ⟨h.1.trans h'.1, h'.2.1, fun i hi hb => (h'.2.2 i (Nat.lt_of_lt_of_le hi h.1.size) hb).trans (h.2.2 i hi hb)⟩
theorem Mv.set {w : World} {b k : Nat} {s : ByteArray} (h : Cur w b s k) (k' : Nat) (hk : k' ≤ s.size) : Mv b s k' w (w.setCell ⟨b, 1, none⟩ (.int .i64 k')) := by
  refine ⟨(Below.refl b w).setCell (p := ⟨b, 1, none⟩) (Nat.le_refl b) _, ⟨?_, hk, h.2.2⟩, fun i _ hb => Below.heap_setCell _ _ _ _ hb⟩
  show (w.heap.modify b _)[b]? = _
  rw [Array.getElem?_modify, if_pos rfl, h.1]
  rfl

set_option maxHeartbeats 2000000 in
theorem cnew_any (v : Value) (l : List Int) (w : World) (hs : Sl w v l) :
    Calls Tryd.prog 66 #[v] w fun e w' => e = .returned (.pointer (some ⟨w.heap.size, 0, none⟩)) ∧ w' = w.alloc (.cells #[.string (ofBys l), .int .i64 0] 129) := by
  have hc := conv_string hs
  clear hs
  go_enter Tryd.func66, Tryd.ntmps66
  go_wp2
  go_ret
  exact ⟨rfl, rfl⟩

set_option maxHeartbeats 2000000 in
theorem pos_any (b k : Nat) (s : ByteArray) (w : World) (h : Cur w b s k) :
    Calls Tryd.prog 80 #[.pointer (some ⟨b, 0, none⟩)] w fun e w' => e = .returned (.int .i64 k) ∧ w = w' := by
  obtain ⟨c0, c1, f0, f1, hb⟩ := h.facts
  clear h
  go_enter Tryd.func80, Tryd.ntmps80
  go_wp2
  go_ret
  exact ⟨rfl, rfl⟩

set_option maxHeartbeats 2000000 in
theorem rest_any (b k : Nat) (s : ByteArray) (w : World) (h : Cur w b s k) :
    Calls Tryd.prog 82 #[.pointer (some ⟨b, 0, none⟩)] w fun e w' => e = .returned (.string (s.extract k s.size)) ∧ Mv b s k w w' := by
  obtain ⟨c0, c1, f0, f1, hb⟩ := h.facts
  have HC := Lib.hid h
  obtain ⟨_, hk, hsz⟩ := h
  have hk' : (0 : Int) ≤ k := by omega
  have hk2 : (k : Int) ≤ s.size := by omega
  go_enter Tryd.func82, Tryd.ntmps82
  go_wp2
  go_quiet (fail)
  go_wp2
  go_ret
  exact ⟨rfl, Mv.drewN HC.out _⟩

theorem ext_empty (s : ByteArray) (k : Nat) (h : k < s.size) : (s.extract k s.size).toList.isEmpty = false := by
  rw [ByteArray.toList_eq, ByteArray.data_extract, Array.toList_extract]
  cases hl : (s.data.toList.extract k s.size) with
  | nil =>
    have := congrArg List.length hl
    simp at this
    have : s.data.size = s.size := rfl
    omega
  | cons => rfl
theorem ext_head (s : ByteArray) (k : Nat) (h : k < s.size) (h' : 0 < (s.extract k s.size).size) : (((s.extract k s.size)[0]'h').toNat : Int) = (bys s).getD k 0 := by
  rw [bys_getD s k h]
  congr 2
  show (s.extract k s.size).data[0] = s.data[k]
  simp [ByteArray.data_extract]

/-- The byte at a place, 0 at the end. -/
def atB (s : ByteArray) (k : Nat) : Int := (bys s).getD k 0

set_option maxHeartbeats 2000000 in
theorem peek_any (b k : Nat) (s : ByteArray) (w : World) (h : Cur w b s k) :
    Calls Tryd.prog 93 #[.pointer (some ⟨b, 0, none⟩)] w fun e w' => e = .returned (.tuple #[.int .u8 (atB s k), .bool (decide (k < s.size))]) ∧ Mv b s k w w' := by
  have HR := Lib.hid (rest_any b k s w h)
  have hle := h.2.1
  clear h
  by_cases hk : k < s.size
  · have hg : Hid (atB s k = (s[k].toNat : Int)) := bys_getD s k hk
    have he := ext_empty s k hk
    have hx : Hid (∀ h', (((s.extract k s.size)[0]'h').toNat : Int) = atB s k) := fun h' => ext_head s k hk h'
    have hp : 0 < s.size - k := by omega
    have hd : Hid (true = decide (k < s.size)) := (decide_eq_true hk).symm
    go_enter Tryd.func93, Tryd.ntmps93
    go_wp2_with fail
    refine HR.out.mono ?_
    rintro e w1 ⟨rfl, hm⟩
    have HM := Lib.hid hm
    clear hm
    go_wp2
    go_ret2
    exact ⟨ret_vb (hx.out _) hd.out, HM.out⟩
  · obtain rfl : k = s.size := by omega
    have hg : Hid (atB s s.size = 0) := by unfold atB; rw [List.getD, List.getElem?_eq_none (by rw [bys_length]; exact Nat.le_refl _)]; rfl
    have hd : Hid (false = decide (s.size < s.size)) := Lib.hid (by simp)
    go_enter Tryd.func93, Tryd.ntmps93
    go_wp2_with fail
    refine HR.out.mono ?_
    rintro e w1 ⟨rfl, hm⟩
    have HM := Lib.hid hm
    clear hm
    go_wp2
    go_ret2
    exact ⟨ret_vb hg.out.symm hd.out, HM.out⟩

theorem Mv.cur {w w' : World} {b k : Nat} {s : ByteArray} (h : Mv b s k w w') : Cur w' b s k := h.2.1
theorem Mv.setAt {w w' : World} {b k : Nat} {s : ByteArray} (h : Mv b s k w w') (k' : Nat) (hk : k' ≤ s.size) : Mv b s k' w (w'.setCell ⟨b, 1, none⟩ (.int .i64 k')) := h.trans (Mv.set h.2.1 k' hk)

set_option maxHeartbeats 2000000 in
theorem next_any (b k : Nat) (s : ByteArray) (w : World) (h : Cur w b s k) :
    Calls Tryd.prog 90 #[.pointer (some ⟨b, 0, none⟩)] w fun e w' => e = .returned (.tuple #[.int .u8 (atB s k), .bool (decide (k < s.size))]) ∧ Mv b s (if k < s.size then k + 1 else k) w w' := by
  have HR := Lib.hid (peek_any b k s w h)
  have hle := h.2.1
  have hs2 := h.2.2
  clear h
  generalize atB s k = c at *
  by_cases hk : k < s.size
  · rw [if_pos hk]
    rw [decide_eq_true hk] at HR ⊢
    go_enter Tryd.func90, Tryd.ntmps90
    go_wp2_with fail
    refine HR.out.mono ?_
    rintro e w1 ⟨rfl, hm⟩
    obtain ⟨c0, c1, f0, f1, hb⟩ := hm.cur.facts
    have HM := Lib.hid hm
    clear hm
    go_wp2
    go_ret2
    exact ⟨rfl, HM.out.setAt (k + 1) (by omega)⟩
  · rw [if_neg hk]
    rw [decide_eq_false hk] at HR ⊢
    go_enter Tryd.func90, Tryd.ntmps90
    go_wp2_with fail
    refine HR.out.mono ?_
    rintro e w1 ⟨rfl, hm⟩
    have HM := Lib.hid hm
    clear hm
    go_wp2
    go_ret2
    exact ⟨rfl, HM.out⟩

set_option maxHeartbeats 2000000 in
theorem back_yes (b k n : Nat) (s : ByteArray) (w : World) (h : Cur w b s k) (hn : n ≤ k) :
    Calls Tryd.prog 91 #[.pointer (some ⟨b, 0, none⟩), .int .i64 n] w fun e w' => e = .returned (.bool true) ∧ Mv b s (k - n) w w' := by
  obtain ⟨c0, c1, f0, f1, hb⟩ := h.facts
  have HC := Lib.hid h
  obtain ⟨_, hle, hs2⟩ := h
  have h1 : (0 : Int) ≤ n := by omega
  have h2 : (n : Int) ≤ k := by omega
  have h3 : ((k - n : Nat) : Int) = (k : Int) - n := by omega
  have H3 := Lib.hid h3
  clear h3
  go_enter Tryd.func91, Tryd.ntmps91
  go_wp2
  go_ret
  exact ⟨rfl, by rw [← H3.out]; exact Mv.set HC.out (k - n) (by omega)⟩

/-- Does a text begin with another? -/
def begB (s t : ByteArray) : Bool := decide (t.size ≤ s.size ∧ s.extract 0 t.size = t)
theorem toList_beq (s t : ByteArray) : (s.toList == t.toList) = decide (s = t) := by
  rw [Bool.eq_iff_iff]
  simp only [beq_iff_eq, decide_eq_true_eq, ByteArray.toList_eq]
  exact ⟨fun h => WideShapes.bytes_inj h, fun h => by rw [h]⟩

set_option maxHeartbeats 2000000 in
theorem hasPrefix_any (s t : ByteArray) (w : World) :
    Calls Tryd.prog 15 #[.string s, .string t] w fun e w' => e = .returned (.bool (begB s t)) ∧ w = w' := by
  obtain ⟨x, hx⟩ : ∃ x, x = begB s t := ⟨_, rfl⟩
  rw [← hx]
  unfold begB at hx
  by_cases h : t.size ≤ s.size
  · have hb := toList_beq (s.extract 0 t.size) t
    have hxx : x = decide (s.extract 0 t.size = t) := by rw [hx]; simp [h]
    rw [← hxx] at hb
    clear hx hxx
    have h' : (t.size : Int) ≤ s.size := by omega
    go_enter Tryd.func15, Tryd.ntmps15
    go_wp2
    go_ret
    exact ⟨rfl, rfl⟩
  · have hxx : x = false := by rw [hx]; simp; omega
    subst hxx
    clear hx
    have h' : (s.size : Int) < t.size := by omega
    go_enter Tryd.func15, Tryd.ntmps15
    go_wp2
    all_goals first | (exfalso; omega) | (go_ret; exact ⟨rfl, rfl⟩)

theorem begB_size {s t : ByteArray} {k : Nat} (hk : k ≤ s.size) (h : begB (s.extract k s.size) t = true) : k + t.size ≤ s.size := by
  unfold begB at h
  simp at h
  omega

set_option maxHeartbeats 2000000 in
theorem take_any (b k : Nat) (s t : ByteArray) (w : World) (h : Cur w b s k) (ht : t.size ≤ 9223372036854775807) :
    Calls Tryd.prog 76 #[.pointer (some ⟨b, 0, none⟩), .string t] w fun e w' => e = .returned (.bool (begB (s.extract k s.size) t)) ∧ Mv b s (if begB (s.extract k s.size) t = true then k + t.size else k) w w' := by
  have HR := Lib.hid (rest_any b k s w h)
  have hle := h.2.1
  have hs2 := h.2.2
  have HP := Lib.hid (fun w => hasPrefix_any (s.extract k s.size) t w)
  have HZ := Lib.hid (begB_size (s := s) (t := t) hle)
  clear h
  cases hx : begB (s.extract k s.size) t with
  | true =>
    have hz := HZ.out hx
    rw [hx] at HP
    clear hx HZ
    rw [if_pos rfl]
    go_enter Tryd.func76, Tryd.ntmps76
    go_wp2_with fail
    refine HR.out.mono ?_
    rintro e w1 ⟨rfl, hm⟩
    obtain ⟨c0, c1, f0, f1, hb⟩ := hm.cur.facts
    have HM := Lib.hid hm
    clear hm
    go_wp2_with fail
    refine (HP.out _).mono ?_
    rintro e w2 ⟨rfl, rfl⟩
    go_wp2
    go_ret
    exact ⟨rfl, HM.out.setAt (k + t.size) (by omega)⟩
  | false =>
    rw [hx] at HP
    clear hx HZ
    rw [if_neg (by simp)]
    go_enter Tryd.func76, Tryd.ntmps76
    go_wp2_with fail
    refine HR.out.mono ?_
    rintro e w1 ⟨rfl, hm⟩
    have HM := Lib.hid hm
    clear hm
    go_wp2_with fail
    refine (HP.out _).mono ?_
    rintro e w2 ⟨rfl, rfl⟩
    go_wp2
    go_ret
    exact ⟨rfl, HM.out⟩
end Go.Proofs.YtoodpajbefffhaaDoor
