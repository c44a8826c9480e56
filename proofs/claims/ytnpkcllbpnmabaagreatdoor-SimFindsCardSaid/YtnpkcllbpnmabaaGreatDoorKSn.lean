import Derived.Test.YtnpkcllbpnmabaaGreatDoorScDigits
import Derived.Lib.SlBytesConst
import Derived.Deep.RegionWith
import Derived.Deep.RegionHeld3
import Derived.Below
import Derived.Test.YtnpkcllbpnmabaaGreatDoorScByte
import Derived.ChangeSlices
import Derived.ProofKit
import Derived.Deep.Slices
import Derived.SizedLaws
import Derived.LoopTactic
import Derived.Deep.QuietTactic
import Derived.Test.YtnpkcllbpnmabaaGreatDoorKCu
import Derived.Deep.LoopGhost
import Derived.StillTailTactics
namespace Go.Proofs.YtnpkcllbpnmabaaGreatDoor
open Go.RowKit
def IsStop (p : Nat → Bool) (n k : Nat) : Prop := k ≤ n ∧ (∀ j, j < k → p j = true) ∧ (k < n → p k = false)
theorem IsStop.same {p : Nat → Bool} {n k k' : Nat} (h : IsStop p n k) (h' : IsStop p n k') : k = k' := by
  obtain ⟨a, b, c⟩ := h
  obtain ⟨a', b', c'⟩ := h'
  rcases Nat.lt_trichotomy k k' with g | g | g
  · have := c (by omega); rw [b' k g] at this; cases this
  · exact g
  · have := c' (by omega); rw [b k' g] at this; cases this
def stopN (p : Nat → Bool) : Nat → Nat
  | 0 => 0
  | n + 1 => if stopN p n = n ∧ p n = true then n + 1 else stopN p n
theorem stopN_is (p : Nat → Bool) : ∀ n, IsStop p n (stopN p n)
  | 0 => ⟨by simp [stopN], fun j hj => absurd hj (by simp [stopN]), fun h => absurd h (by omega)⟩
  | n + 1 => by
    obtain ⟨a, b, c⟩ := stopN_is p n
    unfold stopN
    by_cases h : stopN p n = n ∧ p n = true
    · rw [if_pos h]
      refine ⟨by omega, fun j hj => ?_, fun h => absurd h (by omega)⟩
      by_cases hj' : j = n
      · rw [hj']; exact h.2
      · exact b j (by omega)
    · rw [if_neg h]
      refine ⟨by omega, b, fun hlt => ?_⟩
      by_cases hn : stopN p n = n
      · rw [hn]; simpa using fun hp => h ⟨hn, hp⟩
      · exact c (by omega)
def inB (c : Int) (l : List Int) : Bool := l.contains c
theorem zero256 (w : World) : (zeroValue 198).run Tryz.prog w = .ok (.agg (Array.replicate 256 (.bool false))) w := by kernel_rfl
def Tab (w : World) (A : Nat) (L : List Int) : Prop := ∀ c : Nat, c < 256 → w.cell? ⟨A, c, none⟩ = some (.bool (inB c L)) ∧ w.frozen? ⟨A, c, none⟩ = false
theorem inB_snoc (c : Int) (L : List Int) (d : Int) : inB c (L ++ [d]) = (inB c L || (c == d)) := by
  unfold inB
  rw [Bool.eq_iff_iff]
  simp
theorem Tab.set {w : World} {A : Nat} {L : List Int} (h : Tab w A L) (n : Nat) (hn : n < 256) : Tab (w.setCell ⟨A, n, none⟩ (.bool true)) A (L ++ [(n : Int)]) := by
  intro c hc
  obtain ⟨h1, h2⟩ := h c hc
  refine ⟨?_, by rw [World.frozen?_setCell]; exact h2⟩
  rw [inB_snoc]
  by_cases hcn : c = n
  · subst hcn
    rw [World.cell?_setCell_same _ _ _ h1]
    simp
  · rw [World.cell?_setCell_other _ _ _ _ (by simp; try omega), h1]
    have : ((c : Int) == (n : Int)) = false := by simp; omega
    rw [this, Bool.or_false]
theorem Tab.start (w : World) (t : TypeId) : Tab (w.alloc (.cells (Array.replicate 256 (.bool false)) t)) w.heap.size [] := by
  intro c hc
  refine ⟨?_, ?_⟩
  · rw [World.cell?_alloc_new]
    simp [hc, inB]
  · simp
theorem Tab.mv {w w' : World} {A b k : Nat} {s : ByteArray} {L : List Int} (h : Tab w A L) (hm : Mv b s k w w') (hA : A < w.heap.size) (hb : A ≠ b) : Tab w' A L := by
  intro c hc
  obtain ⟨h1, h2⟩ := h c hc
  have e := hm.2.2 A hA hb
  exact ⟨by rw [World.cell?_of_block (w := w) e]; exact h1, by rw [World.frozen?_of_block (w := w) e]; exact h2⟩
theorem take_snoc' (t : ByteArray) (k : Nat) (h : k < t.size) : (bys t).take (k + 1) = (bys t).take k ++ [(t[k].toNat : Int)] := by
  have hk : k < (bys t).length := by rw [bys_length]; exact h
  rw [List.take_succ_eq_append_getElem hk]
  have := bys_getD t k h
  rw [List.getD, List.getElem?_eq_getElem hk] at this
  simp only [Option.getD_some] at this
  rw [this]
theorem Mv.drewAt {w w' : World} {b k : Nat} {s : ByteArray} (h : Mv b s k w w') (n : Nat) : Mv b s k w (w'.drewN n) := h.trans (Mv.drewN h.2.1 n)
theorem Mv.alloc {w w' : World} {b k : Nat} {s : ByteArray} (h : Mv b s k w w') (o : Obj) : Mv b s k w (w'.alloc o) := by
  have hb := h.2.1.facts.2.2.2.2
  exact ⟨h.1.alloc (by omega) o, ⟨by rw [Below.heap_alloc _ _ _ hb]; exact h.2.1.1, h.2.1.2⟩, fun i hi hn => by rw [Below.heap_alloc _ _ _ (Nat.lt_of_lt_of_le hi h.1.size)]; exact h.2.2 i hi hn⟩
def PassOut (w : World) (b : Nat) (s : ByteArray) (k d : Nat) (e : Ending) (w' : World) : Prop :=
  ∃ nb cap, e = .returned (.slice (some ⟨nb, 0, none⟩) d cap) ∧ Sl w' (.slice (some ⟨nb, 0, none⟩) d cap) (((bys s).drop k).take d) ∧ w.heap.size ≤ nb ∧ nb < w'.heap.size ∧ Mv b s (k + d) w w'
theorem passed {w wr : World} {b k j : Nat} {s : ByteArray} (h : Mv b s j w wr) (hk : k ≤ j) (n m : Nat) (z : Nat × Nat) :
    PassOut w b s k (j - k) (.returned (.slice (some ⟨wr.heap.size, 0, none⟩) (j - k) (grownCap (wr.drewN n) (j - k) 0 5)))
      ((wr.drewN m).alloc (.cells (bytesRow (s.extract k j) (grownCap (wr.drewN n) (j - k) 0 5)) 5 z)) := by
  have hj := h.2.1.2.1
  have hs := h.2.1.2.2
  have hz : (s.extract k j).size = j - k := by simp; omega
  have hl : (((bys s).drop k).take (j - k)).length = j - k := by rw [List.length_take, List.length_drop, bys_length]; omega
  refine ⟨_, _, rfl, ?_, h.1.size, ?_, ?_⟩
  · rw [← bys_extract] at *
    refine ⟨bys_byt _, by omega, Or.inr ⟨wr.heap.size, 0, _, by rw [hl], by rw [hl]; exact grownCap_ge _ _ _ _, ?_, ?_⟩⟩
    · have := grownCap_le_maxLen (wr.drewN n) (j - k) 0 5 (by unfold maxLen; omega)
      unfold maxLen at this
      omega
    · intro i hi
      rw [Nat.zero_add, bys_getD _ i (by omega)]
      show ((wr.drewN m).alloc _).cell? ⟨(wr.drewN m).heap.size, i, none⟩ = _
      rw [World.cell?_alloc_mark]
      exact bytesRow_at _ _ i (by have : (s.extract k j).data.size = (s.extract k j).size := rfl
                                  omega)
  · show wr.heap.size < (wr.heap.push _).size
    simp
  · rw [Nat.add_sub_cancel' hk]
    exact (h.drewAt m).alloc _
def passB (s t : ByteArray) (q : Bool) (k i : Nat) : Bool := inB (atB s (k + i)) (bys t) == q
def passN (s t : ByteArray) (q : Bool) (k : Nat) : Nat := stopN (passB s t q k) (s.size - k)
theorem passN_of {s t : ByteArray} {q : Bool} {k j : Nat} (hk : k ≤ j) (hj : j ≤ s.size) (h : ∀ i, k ≤ i → i < j → inB (atB s i) (bys t) = q) (h2 : j < s.size → ¬ inB (atB s j) (bys t) = q) : passN s t q k = j - k := by
  refine (stopN_is _ _).same ⟨by omega, fun i hi => ?_, fun hlt => ?_⟩
  · unfold passB; rw [h (k + i) (by omega) (by omega)]; simp
  · unfold passB; rw [Nat.add_sub_cancel' hk]; simpa using h2 (by omega)
set_option maxRecDepth 100000 in
set_option maxHeartbeats 4000000 in
theorem pass_any (b k : Nat) (s t : ByteArray) (q : Bool) (w : World) (h : Cur w b s k) (ht : t.size ≤ 9223372036854775807) :
    Calls Tryz.prog 99 #[.pointer (some ⟨b, 0, none⟩), .string t, .bool q] w (PassOut w b s k (passN s t q k)) := by
  have kb := fun w s => run_bytes_of_string (P := Tryz.prog) w 9 25 5 s Tryz.underlying9 Tryz.underlying25 Tryz.underlying5
  obtain ⟨Z, hz, hZ⟩ : ∃ Z, (∀ w, (zeroValue 198).run Tryz.prog w = .ok (.agg Z) w) ∧ Z = Array.replicate 256 (.bool false) := ⟨_, zero256, rfl⟩
  have HT0 : Hid (Tab (w.alloc (.cells Z 198)) w.heap.size []) := by rw [hZ]; exact Tab.start w _
  clear hZ
  obtain ⟨c0, c1, f0, f1, hb⟩ := h.facts
  have HC := Lib.hid h
  obtain ⟨_, hle, hs2⟩ := h
  go_enter Tryz.func99, Tryz.ntmps99
  go_wp2
  go_loopw [14] (fun i wr => ∃ j : Nat, j ≤ t.size ∧ i = .int .i64 j ∧ Tab wr w.heap.size ((bys t).take j) ∧ Below w.heap.size w wr) (fun i _ => t.size - (intOf i).toNat)
  case atStart => exact ⟨0, Nat.zero_le _, rfl, HT0.out, (Below.refl _ _).alloc (Nat.le_refl _) _⟩
  case round =>
    obtain ⟨j, hj, rfl, htab, hbel⟩ := hrel
    have HB := Lib.hid hbel
    have HT := Lib.hid htab
    clear hbel htab
    by_cases hlt : j < t.size
    · have hc256 : t[j].toNat < 256 := t[j].toNat_lt
      have hc256' : (t[j].toNat : Int) < 256 := by omega
      obtain ⟨g1, g2⟩ := HT.out t[j].toNat hc256
      have HTS : Hid (Tab (wr.setCell ⟨w.heap.size, t[j].toNat, none⟩ (.bool true)) w.heap.size ((bys t).take (j + 1))) := by
        rw [take_snoc' t j hlt]; exact HT.out.set _ hc256
      go_wp2
      go_roundw
      case rel => exact ⟨j + 1, by omega, by go_num, HTS.out, HB.out.setCell (Nat.le_refl _) _⟩
      case measure => simp [intOf]; omega
    · obtain rfl : j = t.size := by omega
      have HTF : Hid (Tab wr w.heap.size (bys t)) := by have := HT.out; rw [List.take_of_length_le (by rw [bys_length]; exact Nat.le_refl _)] at this; exact this
      have HCR : Hid (Cur wr b s k) := ⟨by rw [HB.out.block b hb]; exact HC.out.1, HC.out.2⟩
      obtain ⟨c0', c1', f0', f1', hb'⟩ := HCR.out.facts
      clear c0 c1 f0 f1
      have HMV : Hid (Mv b s k w wr) := ⟨HB.out.mono (by omega), HCR.out, fun i hi _ => HB.out.block i hi⟩
      have HSZ : Hid (w.heap.size < wr.heap.size) := by
        obtain ⟨h1, _⟩ := HTF.out 0 (by omega)
        rcases Nat.lt_or_ge w.heap.size wr.heap.size with h' | h'
        · exact h'
        · simp [World.cell?, Array.getElem?_eq_none h'] at h1
      go_wp2
      go_loopg [] (s.size - k) (fun g wx => ∃ j : Nat, j + g = s.size ∧ k ≤ j ∧ (∀ i, k ≤ i → i < j → inB (atB s i) (bys t) = q) ∧ Mv b s j w wx ∧ Tab wx w.heap.size (bys t) ∧ w.heap.size < wx.heap.size)
      case atStart => exact ⟨k, by omega, Nat.le_refl _, fun i h1 h2 => absurd h2 (by omega), HMV.out, HTF.out, HSZ.out⟩
      case round =>
        obtain ⟨j, hjg, hkj, hall, hmv, htab, hsz⟩ := hrel
        have hle2 := hmv.2.1.2.1
        obtain ⟨c0, c1, f0, f1, hbx⟩ := hmv.2.1.facts
        have HM := Lib.hid hmv
        have HT2 := Lib.hid htab
        have HA2 := Lib.hid hall
        clear hmv htab hall c0' c1' f0' f1'
        by_cases hlt : j < s.size
        · have hgb : Hid (atB s j = (s[j].toNat : Int)) := bys_getD s j hlt
          have hc256 : s[j].toNat < 256 := s[j].toNat_lt
          have hc256' : (s[j].toNat : Int) < 256 := by omega
          have hltI : (j : Int) < s.size := by omega
          obtain ⟨g1, g2⟩ := HT2.out s[j].toNat hc256
          obtain ⟨vb, hvb⟩ : ∃ vb, vb = inB (s[j].toNat : Int) (bys t) := ⟨_, rfl⟩
          rw [← hvb] at g1
          have HV := Lib.hid hvb
          clear hvb
          cases gk with
          | zero => exfalso; omega
          | succ g =>
            by_cases hvq : vb = q
            · have HALL : Hid (∀ i, k ≤ i → i < j + 1 → inB (atB s i) (bys t) = q) := by
                intro i h1 h2
                by_cases hij : i = j
                · rw [hij, hgb.out, ← HV.out]; exact hvq
                · exact HA2.out i h1 (by omega)
              subst hvq
              cases vb
              all_goals
                go_wp2
                go_quiet (fail)
                go_wp2
                go_roundg g
                case rel => exact ⟨j + 1, by omega, by omega, HALL.out, (HM.out.drewAt nq).setAt (j + 1) (by omega), HT2.out.mv ((Mv.drewN HM.out.cur nq).setAt (j + 1) (by omega)) hsz (by omega), by simpa using hsz⟩
                case measure => omega
            · have HPN : Hid (passN s t q k = j - k) := passN_of hkj hle2 HA2.out (fun _ => by rw [hgb.out, ← HV.out]; exact hvq)
              cases vb <;> cases q
              all_goals first | exact absurd rfl hvq | skip
              all_goals
                go_wp2
                go_quiet (fail)
                go_wp2
                go_region
                go_wp2
                go_ret
                rw [HPN.out]
                exact passed HM.out hkj _ _ _
        · have HPN : Hid (passN s t q k = j - k) := passN_of hkj hle2 HA2.out (fun h => absurd h hlt)
          obtain rfl : j = s.size := by omega
          cases q
          all_goals
            go_wp2
            go_quiet (fail)
            go_wp2
            go_region
            go_wp2
            go_ret
            rw [HPN.out]
            exact passed HM.out hkj _ _ _
end Go.Proofs.YtnpkcllbpnmabaaGreatDoor
