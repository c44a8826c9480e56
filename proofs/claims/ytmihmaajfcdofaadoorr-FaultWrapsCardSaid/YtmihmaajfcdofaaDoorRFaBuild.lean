/- The contract of build: the chain that a list of wraps makes, and what it must tell. -/
import Derived.Test.YtmihmaajfcdofaaDoorRFaLaw
namespace Go.Proofs.YtmihmaajfcdofaaDoorR
open Go.RowKit Go.Extern.Stop Go.Stop Go.Extern

/-- The chain of the first k wraps, the last one outermost. -/
def lst (ws : Nat → Bool × Int) : Nat → List (Bool × Int)
  | 0 => []
  | k + 1 => ws k :: lst ws k

/-- The wraps as they lie in a slice. -/
def WrapsAt (w : World) (b off len : Nat) (ws : Nat → Bool × Int) : Prop :=
  ∀ i, i < len → w.cell? ⟨b, off + i * 2, none⟩ = some (.bool (ws i).1) ∧ w.cell? ⟨b, off + i * 2 + 1, none⟩ = some (.int .i64 (ws i).2)

theorem Chn.kept2 {w w' : World} (hb : ∀ (k : Nat) (x : Value) (n : Int) (t : TypeId), w.heap[k]? = some (.cells #[x, .int .i64 n] t) → w'.heap[k]? = some (.cells #[x, .int .i64 n] t)) : ∀ {l : List (Bool × Int)} {v r : Value}, Chn w l v r → Chn w' l v r
  | [], _, _, h => h
  | (_, _) :: _, _, _, ⟨k, x, hv, hk, hl⟩ => ⟨k, x, hv, hb k _ _ _ hk, Chn.kept2 hb hl⟩
theorem Chn.set3 {w : World} {l : List (Bool × Int)} {e r : Value} (h : Chn w l e r) {F : Nat} {a b c : Value} {t : TypeId} (hF : w.heap[F]? = some (.cells #[a, b, c] t (0, 0))) (j : Nat) (v : Value) : Chn (w.setCell ⟨F, j, none⟩ v) l e r := by
  refine h.kept2 fun k x n u hk => ?_
  by_cases hkF : k = F
  · subst hkF; rw [hF] at hk; simp at hk
  · rw [Below.heap_setCell _ _ _ _ hkF]; exact hk
theorem Chn.drew {w : World} {l : List (Bool × Int)} {e r : Value} (h : Chn w l e r) : Chn w.drew l e r := Chn.kept2 (w := w) (w' := w.drew) (fun _ _ _ _ h => h) h

/-- A chain beside a block of three cells that is being written. -/
def Chn3 (w : World) (R : Nat) (l : List (Bool × Int)) (e r : Value) : Prop := Chn w l e r ∧ ∃ a b c t, w.heap[R]? = some (.cells #[a, b, c] t (0, 0))
theorem Chn3.set {w : World} {R : Nat} {l : List (Bool × Int)} {e r : Value} (h : Chn3 w R l e r) (j : Nat) (v : Value) : Chn3 (w.setCell ⟨R, j, none⟩ v) R l e r := by
  obtain ⟨hc, a, b, c, t, hR⟩ := h
  refine ⟨hc.set3 hR j v, ?_⟩
  have hs : (w.setCell ⟨R, j, none⟩ v).heap[R]? = some (.cells ((#[a, b, c] : Array Value).setIfInBounds j v) t (0, 0)) := by
    simp [World.setCell, Array.getElem?_modify, hR]
  rw [hs]
  rcases j with _ | _ | _ | j
  · exact ⟨v, b, c, t, by simp⟩
  · exact ⟨a, v, c, t, by simp⟩
  · exact ⟨a, b, v, t, by simp⟩
  · exact ⟨a, b, c, t, by simp [Array.setIfInBounds]⟩

theorem Rt.setCell {w : World} {s : Nat → Addr} {a : Addr} {c : Nat} (h : Rt w s a c) (p : Addr) (v : Value) : Rt (w.setCell p v) s a c where
  blk := by
    obtain ⟨cs, t, e⟩ := h.blk
    by_cases hp : a.block = p.block
    · rw [hp] at e ⊢
      exact ⟨_, t, by simp [World.setCell, Array.getElem?_modify, e]; rfl⟩
    · exact ⟨cs, t, by rw [Below.heap_setCell _ _ _ _ hp]; exact e⟩
  code := h.code
  pos := h.pos
  le := h.le
theorem Rt.alloc {w : World} {s : Nat → Addr} {a : Addr} {c : Nat} (h : Rt w s a c) (o : Obj) : Rt (w.alloc o) s a c := h.below ((Below.refl _ _).alloc (Nat.le_refl _) o)
theorem Rt.drew {w : World} {s : Nat → Addr} {a : Addr} {c : Nat} (h : Rt w s a c) : Rt w.drew s a c := h.below (Below.refl _ _).drew

def BRel (w : World) (s : Nat → Addr) (F R : Nat) (ws : Nat → Bool × Int) (n : Nat) (c : Nat) (a : Addr) (e i : Value) (wr : World) : Prop :=
  ∃ k : Nat, i = .int .i64 k ∧ k ≤ n ∧ Below w.heap.size w wr ∧ Chn wr (lst ws k) e (bot a) ∧ Rt wr s a c ∧
    wr.heap[F]? = some (.cells #[.int .i64 c, .int .i64 ((firstOf false (lst ws k)).getD 0), .int .i64 ((firstOf true (lst ws k)).getD 0)] 26) ∧
    wr.heap[R]? = some (.cells #[.int .i64 0, .int .i64 0, .int .i64 0] 26)

set_option maxHeartbeats 2000000 in
theorem build_zero (sl : Value) (w : World) :
    Calls Tryd.prog 7 #[.int .i64 0, sl] w fun e w' => e = .returned (.tuple #[.nilIface, .agg #[.int .i64 0, .int .i64 0, .int .i64 0]]) ∧ Below w.heap.size w w' := by
  have HO := Lib.hid (of_none (w.alloc (.cells #[.int .i64 0, .int .i64 0, .int .i64 0] 26)) 0 (by decide))
  go_enter Tryd.func7, Tryd.ntmps7
  go_wp2_with fail
  refine HO.out.mono ?_
  rintro e w' ⟨rfl, rfl⟩
  go_wp2
  refine bodyPost_ret (v := .tuple #[.nilIface, .agg #[.int .i64 0, .int .i64 0, .int .i64 0]]) (by simp [results, Tryd.results7, go_sem]) rfl ⟨rfl, ?_⟩
  repeat' first | exact Below.refl _ _ | refine Below.drew ?_ | refine Below.alloc ?_ ?_ _ | refine Below.setCell ?_ ?_ _ | (simp; done)
set_option maxHeartbeats 2000000 in
theorem build_other (sl : Value) (w : World) :
    Calls Tryd.prog 7 #[.int .i64 22, sl] w fun e w' => e = .returned (.tuple #[.nilIface, .agg #[.int .i64 0, .int .i64 0, .int .i64 0]]) ∧ Below w.heap.size w w' := by
  have HO := Lib.hid (of_none (w.alloc (.cells #[.int .i64 0, .int .i64 0, .int .i64 0] 26)) 22 (by decide))
  go_enter Tryd.func7, Tryd.ntmps7
  go_wp2_with fail
  refine HO.out.mono ?_
  rintro e w' ⟨rfl, rfl⟩
  go_wp2
  refine bodyPost_ret (v := .tuple #[.nilIface, .agg #[.int .i64 0, .int .i64 0, .int .i64 0]]) (by simp [results, Tryd.results7, go_sem]) rfl ⟨rfl, ?_⟩
  repeat' first | exact Below.refl _ _ | refine Below.drew ?_ | refine Below.alloc ?_ ?_ _ | refine Below.setCell ?_ ?_ _ | (simp; done)

set_option maxRecDepth 100000 in
set_option maxHeartbeats 8000000 in
theorem build_ss (c : Nat) (h1 : 1 ≤ c) (h2 : c ≤ 21) (b off len cap : Nat) (ws : Nat → Bool × Int) (w : World) (s : Nat → Addr) (hs : Snt w s) (hw : WrapsAt w b off len ws) (hlen : len ≤ 9223372036854775807) :
    Calls Tryd.prog 7 #[.int .i64 c, .slice (some ⟨b, off, none⟩) len cap] w fun e w' => ∃ v a, e = .returned (.tuple #[v, .agg #[.int .i64 c, .int .i64 ((firstOf false (lst ws (min len 60))).getD 0), .int .i64 ((firstOf true (lst ws (min len 60))).getD 0)]]) ∧
      Chn w' (lst ws (min len 60)) v (bot a) ∧ Rt w' s a c ∧ Below w.heap.size w w' := by
  have hb0 : Below w.heap.size w (w.alloc (.cells #[.int .i64 0, .int .i64 0, .int .i64 0] 26)) := (Below.refl _ _).alloc (Nat.le_refl _) _
  have HW := Lib.hid hw
  clear hw
  have HO := Lib.hid (of_some s _ (hs.below hb0) c h1 h2)
  have HR0 : Hid (Rt w s (s c) c) := hs.rt c h1 h2
  have hc0 : (0 : Int) ≤ c := by omega
  have hc1 : (c : Int) ≤ 22 := by omega
  have hc2 : ((c : Int) == 0) = false := beq_eq_false_iff_ne.2 (by omega)
  have hc3 : ((c : Int) == 22) = false := beq_eq_false_iff_ne.2 (by omega)
  clear hs hb0
  go_enter Tryd.func7, Tryd.ntmps7
  go_wp2_with fail
  refine HO.out.mono ?_
  rintro e w' ⟨rfl, rfl⟩
  go_wp2
  go_loopw [6, 8] (fun e i wr => BRel w s (w.heap.size + 1) w.heap.size ws (min len 60) c (s c) e i wr) (fun _ i _ => 60 - (intOf i).toNat)
  case atStart =>
    refine ⟨0, rfl, Nat.zero_le _, ((Below.refl _ _).alloc (Nat.le_refl _) _).alloc (by simp) _, rfl, (HR0.out.alloc _).alloc _, ?_, ?_⟩
    · have := new_block (w.alloc (.cells #[.int .i64 0, .int .i64 0, .int .i64 0] 26)) (.cells #[.int .i64 c, .int .i64 0, .int .i64 0] 26) (Below.refl _ _)
      simpa [firstOf, lst] using this
    · exact kept_block (new_block w _ (Below.refl _ _)) ((Below.refl _ _).alloc (Nat.le_refl _) _)
  case round =>
    obtain ⟨k, rfl, hk, hb, hch, ht, hF, hR⟩ := hrel
    obtain ⟨vt, vv, rfl⟩ := hch.held ⟨_, _, rfl⟩
    have HB := Lib.hid hb
    have HC := Lib.hid hch
    have HT := Lib.hid ht
    have HF := Lib.hid hF
    have HR := Lib.hid hR
    have hz := hb.size
    have hfz := lt_of_block hF
    clear hch hF hR ht
    by_cases hkn : k < min len 60
    · have hk1 : k < len := by omega
      have hk2 : k < 60 := by omega
      obtain ⟨e1, e2⟩ := HW.out k hk1
      have hbl : b < w.heap.size := lt_of_cell e1
      have g1 : wr.cell? ⟨b, off + k * 2, none⟩ = some (.bool (ws k).1) := by rw [hb.cell hbl]; exact e1
      have g2 : wr.cell? ⟨b, off + k * 2 + 1, none⟩ = some (.int .i64 (ws k).2) := by rw [hb.cell hbl]; exact e2
      clear e1 e2 hb
      have hin' : (ws k).1 = true ∨ (ws k).1 = false := by cases (ws k).1 <;> simp
      rcases hin' with hin' | hin'
      · have hin := hin'
        rw [hin] at g1
        have HI := Lib.hid hin
        clear hin hin'
        have hbw : b < wr.heap.size := by omega
        go_wp2_with fail
        refine (wrap_In vt vv _ _).mono ?_
        rintro e w' ⟨rfl, rfl⟩
        have g3 : (wr.alloc (.cells #[.iface vt vv, .int .i64 (ws k).2] 51)).cell? ⟨b, off + k * 2 + 1, none⟩ = some (.int .i64 (ws k).2) := by rw [World.cell?_alloc_lt _ _ _ hbw]; exact g2
        obtain ⟨a0, a1, a2, q0, q1, q2⟩ := Tri.of (block_alloc HF.out (.cells #[.iface vt vv, .int .i64 (ws k).2] 51))
        go_wp2
        go_roundw
        case rel =>
          have hl : lst ws (k + 1) = (true, (ws k).2) :: lst ws k := by show ws k :: _ = _; rw [← HI.out]
          refine ⟨k + 1, by go_num, by omega, ?_, ?_, ?_, ?_, ?_⟩
          · exact (HB.out.setCell (p := ⟨w.heap.size + 1, 2, none⟩) (by simp) _).alloc (by simpa using hz) _
          · rw [hl]; simpa using (HC.out.set3 HF.out 2 (.int .i64 (ws k).2)).wrapIn (ws k).2
          · exact (HT.out.setCell _ _).alloc _
          · have := block_alloc (set2 HF.out (.int .i64 (ws k).2)) (.cells #[.iface vt vv, .int .i64 (ws k).2] 51)
            rw [hl]; simpa [firstOf] using this
          · exact block_alloc (set_far HR.out ⟨w.heap.size + 1, 2, none⟩ (by simp) _) _
        case measure => simp [intOf]; omega
      · have hin := hin'
        rw [hin] at g1
        have HI := Lib.hid hin
        clear hin hin'
        have hbw : b < wr.heap.size := by omega
        go_wp2_with fail
        refine (wrap_At vt vv _ _).mono ?_
        rintro e w' ⟨rfl, rfl⟩
        have g3 : (wr.alloc (.cells #[.iface vt vv, .int .i64 (ws k).2] 46)).cell? ⟨b, off + k * 2 + 1, none⟩ = some (.int .i64 (ws k).2) := by rw [World.cell?_alloc_lt _ _ _ hbw]; exact g2
        obtain ⟨a0, a1, a2, q0, q1, q2⟩ := Tri.of (block_alloc HF.out (.cells #[.iface vt vv, .int .i64 (ws k).2] 46))
        go_wp2
        go_roundw
        case rel =>
          have hl : lst ws (k + 1) = (false, (ws k).2) :: lst ws k := by show ws k :: _ = _; rw [← HI.out]
          refine ⟨k + 1, by go_num, by omega, ?_, ?_, ?_, ?_, ?_⟩
          · exact (HB.out.setCell (p := ⟨w.heap.size + 1, 1, none⟩) (by simp) _).alloc (by simpa using hz) _
          · rw [hl]; simpa using (HC.out.set3 HF.out 1 (.int .i64 (ws k).2)).wrapAt (ws k).2
          · exact (HT.out.setCell _ _).alloc _
          · have := block_alloc (set1 HF.out (.int .i64 (ws k).2)) (.cells #[.iface vt vv, .int .i64 (ws k).2] 46)
            rw [hl]; simpa [firstOf] using this
          · exact block_alloc (set_far HR.out ⟨w.heap.size + 1, 1, none⟩ (by simp) _) _
        case measure => simp [intOf]; omega
    · have hke : k = min len 60 := by omega
      obtain ⟨a0, a1, a2, q0, q1, q2⟩ := Tri.of HF.out
      obtain ⟨b0, b1, b2, r0, r1, r2⟩ := Tri.of HR.out
      clear hb
      have HK := Lib.hid hke
      by_cases hl60 : len ≤ 60
      · have hle : len ≤ k := by omega
        clear hke hkn hl60
        go_wp2
        go_region
        all_goals
          go_wp2
          refine bodyPost_ret (v := .tuple #[.iface vt vv, .agg #[.int .i64 c, .int .i64 ((firstOf false (lst ws k)).getD 0), .int .i64 ((firstOf true (lst ws k)).getD 0)]]) (by simp [results, Tryd.results7, go_sem, b0, b1, b2]) rfl ⟨.iface vt vv, (s c), by rw [← HK.out], ?_, ?_, ?_⟩
          · rw [← HK.out]
            exact Chn.drew (Chn3.set (Chn3.set (Chn3.set ⟨HC.out, _, _, _, _, HR.out⟩ _ _) _ _) _ _).1
          · exact (((HT.out.setCell _ _).setCell _ _).setCell _ _).drew
          · repeat' first | exact HB.out | refine Below.drew ?_ | refine Below.setCell ?_ ?_ _ | (simp; done)
      · have hlt : k < len := by omega
        have hle : 60 ≤ k := by omega
        clear hke hkn hl60
        go_wp2
        go_region
        all_goals
          go_wp2
          refine bodyPost_ret (v := .tuple #[.iface vt vv, .agg #[.int .i64 c, .int .i64 ((firstOf false (lst ws k)).getD 0), .int .i64 ((firstOf true (lst ws k)).getD 0)]]) (by simp [results, Tryd.results7, go_sem, b0, b1, b2]) rfl ⟨.iface vt vv, (s c), by rw [← HK.out], ?_, ?_, ?_⟩
          · rw [← HK.out]
            exact Chn.drew (Chn3.set (Chn3.set (Chn3.set ⟨HC.out, _, _, _, _, HR.out⟩ _ _) _ _) _ _).1
          · exact (((HT.out.setCell _ _).setCell _ _).setCell _ _).drew
          · repeat' first | exact HB.out | refine Below.drew ?_ | refine Below.setCell ?_ ?_ _ | (simp; done)

set_option maxRecDepth 100000 in
set_option maxHeartbeats 8000000 in
theorem build_sn (c : Nat) (h1 : 1 ≤ c) (h2 : c ≤ 21) (o : Option Addr) (cap : Nat) (ws : Nat → Bool × Int) (w : World) (s : Nat → Addr) (hs : Snt w s) :
    Calls Tryd.prog 7 #[.int .i64 c, .slice o 0 cap] w fun e w' => ∃ v a, e = .returned (.tuple #[v, .agg #[.int .i64 c, .int .i64 ((firstOf false (lst ws (min 0 60))).getD 0), .int .i64 ((firstOf true (lst ws (min 0 60))).getD 0)]]) ∧
      Chn w' (lst ws (min 0 60)) v (bot a) ∧ Rt w' s a c ∧ Below w.heap.size w w' := by
  have hb0 : Below w.heap.size w (w.alloc (.cells #[.int .i64 0, .int .i64 0, .int .i64 0] 26)) := (Below.refl _ _).alloc (Nat.le_refl _) _
  have HO := Lib.hid (of_some s _ (hs.below hb0) c h1 h2)
  have HR0 : Hid (Rt w s (s c) c) := hs.rt c h1 h2
  have hc0 : (0 : Int) ≤ c := by omega
  have hc1 : (c : Int) ≤ 22 := by omega
  have hc2 : ((c : Int) == 0) = false := beq_eq_false_iff_ne.2 (by omega)
  have hc3 : ((c : Int) == 22) = false := beq_eq_false_iff_ne.2 (by omega)
  clear hs hb0
  go_enter Tryd.func7, Tryd.ntmps7
  go_wp2_with fail
  refine HO.out.mono ?_
  rintro e w' ⟨rfl, rfl⟩
  go_wp2
  go_loopw [6, 8] (fun e i wr => BRel w s (w.heap.size + 1) w.heap.size ws (min 0 60) c (s c) e i wr) (fun _ i _ => 60 - (intOf i).toNat)
  case atStart =>
    refine ⟨0, rfl, Nat.zero_le _, ((Below.refl _ _).alloc (Nat.le_refl _) _).alloc (by simp) _, rfl, (HR0.out.alloc _).alloc _, ?_, ?_⟩
    · have := new_block (w.alloc (.cells #[.int .i64 0, .int .i64 0, .int .i64 0] 26)) (.cells #[.int .i64 c, .int .i64 0, .int .i64 0] 26) (Below.refl _ _)
      simpa [firstOf, lst] using this
    · exact kept_block (new_block w _ (Below.refl _ _)) ((Below.refl _ _).alloc (Nat.le_refl _) _)
  case round =>
    obtain ⟨k, rfl, hk, hb, hch, ht, hF, hR⟩ := hrel
    obtain ⟨vt, vv, rfl⟩ := hch.held ⟨_, _, rfl⟩
    have HB := Lib.hid hb
    have HC := Lib.hid hch
    have HT := Lib.hid ht
    have HF := Lib.hid hF
    have HR := Lib.hid hR
    have hz := hb.size
    have hfz := lt_of_block hF
    clear hch hF hR ht
    · obtain ⟨a0, a1, a2, q0, q1, q2⟩ := Tri.of HF.out
      obtain ⟨b0, b1, b2, r0, r1, r2⟩ := Tri.of HR.out
      clear hb
      have hke : k = min 0 60 := by omega
      have HK := Lib.hid hke
      have hle : k ≤ 0 := by omega
      clear hke hk
      · skip
        go_wp2
        go_region
        all_goals
          go_wp2
          refine bodyPost_ret (v := .tuple #[.iface vt vv, .agg #[.int .i64 c, .int .i64 ((firstOf false (lst ws k)).getD 0), .int .i64 ((firstOf true (lst ws k)).getD 0)]]) (by simp [results, Tryd.results7, go_sem, b0, b1, b2]) rfl ⟨.iface vt vv, (s c), by rw [← HK.out], ?_, ?_, ?_⟩
          · rw [← HK.out]
            exact Chn.drew (Chn3.set (Chn3.set (Chn3.set ⟨HC.out, _, _, _, _, HR.out⟩ _ _) _ _) _ _).1
          · exact (((HT.out.setCell _ _).setCell _ _).setCell _ _).drew
          · repeat' first | exact HB.out | refine Below.drew ?_ | refine Below.setCell ?_ ?_ _ | (simp; done)

set_option maxRecDepth 100000 in
set_option maxHeartbeats 8000000 in
theorem build_ls (c : Int) (hc : c < 0) (b off len cap : Nat) (ws : Nat → Bool × Int) (w : World) (s : Nat → Addr) (hs : Snt w s) (hw : WrapsAt w b off len ws) (hlen : len ≤ 9223372036854775807) :
    Calls Tryd.prog 7 #[.int .i64 c, .slice (some ⟨b, off, none⟩) len cap] w fun e w' => ∃ v a, e = .returned (.tuple #[v, .agg #[.int .i64 22, .int .i64 ((firstOf false (lst ws (min len 60))).getD 0), .int .i64 ((firstOf true (lst ws (min len 60))).getD 0)]]) ∧
      Chn w' (lst ws (min len 60)) v (bot a) ∧ Rt w' s a (22 : Nat) ∧ Below w.heap.size w w' := by
  have hb0 : Below w.heap.size w (w.alloc (.cells #[.int .i64 0, .int .i64 0, .int .i64 0] 26)) := (Below.refl _ _).alloc (Nat.le_refl _) _
  have HW := Lib.hid hw
  clear hw
  have HO := Lib.hid (of_none (w.alloc (.cells #[.int .i64 0, .int .i64 0, .int .i64 0] 26)) c (by omega))
  have HS := Lib.hid hs
  have hc2 : (c == 0) = false := beq_eq_false_iff_ne.2 (by omega)
  have hc3 : (c == 22) = false := beq_eq_false_iff_ne.2 (by omega)
  clear hs hb0
  go_enter Tryd.func7, Tryd.ntmps7
  go_wp2_with fail
  refine HO.out.mono ?_
  rintro e w' ⟨rfl, rfl⟩
  go_wp2_with fail
  refine (new_any _ _).mono ?_
  rintro e w' ⟨rfl, rfl⟩
  unfold bot
  go_wp2
  go_loopw [6, 8] (fun e i wr => BRel w s (w.heap.size + 1) w.heap.size ws (min len 60) (22 : Nat) ⟨w.heap.size + 2, 0, none⟩ e i wr) (fun _ i _ => 60 - (intOf i).toNat)
  case atStart =>
    refine ⟨0, rfl, Nat.zero_le _, (((Below.refl _ _).alloc (Nat.le_refl _) _).alloc (by simp) _).alloc (by simp; omega) _, rfl, ?_, ?_, ?_⟩
    · have := (HS.out.below (((Below.refl _ _).alloc (Nat.le_refl _) (.cells #[.int .i64 0, .int .i64 0, .int .i64 0] 26)).alloc (by simp) (.cells #[.int .i64 22, .int .i64 0, .int .i64 0] 26))).fresh { data := #[101, 108, 115, 101, 119, 104, 101, 114, 101] }
      simpa using this
    · have := block_alloc (new_block (w.alloc (.cells #[.int .i64 0, .int .i64 0, .int .i64 0] 26)) (.cells #[.int .i64 22, .int .i64 0, .int .i64 0] 26) (Below.refl _ _)) (.cells #[.string { data := #[101, 108, 115, 101, 119, 104, 101, 114, 101] }] 55)
      simpa [firstOf, lst] using this
    · exact block_alloc (block_alloc (new_block w _ (Below.refl _ _)) _) _
  case round =>
    obtain ⟨k, rfl, hk, hb, hch, ht, hF, hR⟩ := hrel
    obtain ⟨vt, vv, rfl⟩ := hch.held ⟨_, _, rfl⟩
    have HB := Lib.hid hb
    have HC := Lib.hid hch
    have HT := Lib.hid ht
    have HF := Lib.hid hF
    have HR := Lib.hid hR
    have hz := hb.size
    have hfz := lt_of_block hF
    clear hch hF hR ht
    by_cases hkn : k < min len 60
    · have hk1 : k < len := by omega
      have hk2 : k < 60 := by omega
      obtain ⟨e1, e2⟩ := HW.out k hk1
      have hbl : b < w.heap.size := lt_of_cell e1
      have g1 : wr.cell? ⟨b, off + k * 2, none⟩ = some (.bool (ws k).1) := by rw [hb.cell hbl]; exact e1
      have g2 : wr.cell? ⟨b, off + k * 2 + 1, none⟩ = some (.int .i64 (ws k).2) := by rw [hb.cell hbl]; exact e2
      clear e1 e2 hb
      have hin' : (ws k).1 = true ∨ (ws k).1 = false := by cases (ws k).1 <;> simp
      rcases hin' with hin' | hin'
      · have hin := hin'
        rw [hin] at g1
        have HI := Lib.hid hin
        clear hin hin'
        have hbw : b < wr.heap.size := by omega
        go_wp2_with fail
        refine (wrap_In vt vv _ _).mono ?_
        rintro e w' ⟨rfl, rfl⟩
        have g3 : (wr.alloc (.cells #[.iface vt vv, .int .i64 (ws k).2] 51)).cell? ⟨b, off + k * 2 + 1, none⟩ = some (.int .i64 (ws k).2) := by rw [World.cell?_alloc_lt _ _ _ hbw]; exact g2
        obtain ⟨a0, a1, a2, q0, q1, q2⟩ := Tri.of (block_alloc HF.out (.cells #[.iface vt vv, .int .i64 (ws k).2] 51))
        go_wp2
        go_roundw
        case rel =>
          have hl : lst ws (k + 1) = (true, (ws k).2) :: lst ws k := by show ws k :: _ = _; rw [← HI.out]
          refine ⟨k + 1, by go_num, by omega, ?_, ?_, ?_, ?_, ?_⟩
          · exact (HB.out.setCell (p := ⟨w.heap.size + 1, 2, none⟩) (by simp) _).alloc (by simpa using hz) _
          · rw [hl]; simpa using (HC.out.set3 HF.out 2 (.int .i64 (ws k).2)).wrapIn (ws k).2
          · exact (HT.out.setCell _ _).alloc _
          · have := block_alloc (set2 HF.out (.int .i64 (ws k).2)) (.cells #[.iface vt vv, .int .i64 (ws k).2] 51)
            rw [hl]; simpa [firstOf] using this
          · exact block_alloc (set_far HR.out ⟨w.heap.size + 1, 2, none⟩ (by simp) _) _
        case measure => simp [intOf]; omega
      · have hin := hin'
        rw [hin] at g1
        have HI := Lib.hid hin
        clear hin hin'
        have hbw : b < wr.heap.size := by omega
        go_wp2_with fail
        refine (wrap_At vt vv _ _).mono ?_
        rintro e w' ⟨rfl, rfl⟩
        have g3 : (wr.alloc (.cells #[.iface vt vv, .int .i64 (ws k).2] 46)).cell? ⟨b, off + k * 2 + 1, none⟩ = some (.int .i64 (ws k).2) := by rw [World.cell?_alloc_lt _ _ _ hbw]; exact g2
        obtain ⟨a0, a1, a2, q0, q1, q2⟩ := Tri.of (block_alloc HF.out (.cells #[.iface vt vv, .int .i64 (ws k).2] 46))
        go_wp2
        go_roundw
        case rel =>
          have hl : lst ws (k + 1) = (false, (ws k).2) :: lst ws k := by show ws k :: _ = _; rw [← HI.out]
          refine ⟨k + 1, by go_num, by omega, ?_, ?_, ?_, ?_, ?_⟩
          · exact (HB.out.setCell (p := ⟨w.heap.size + 1, 1, none⟩) (by simp) _).alloc (by simpa using hz) _
          · rw [hl]; simpa using (HC.out.set3 HF.out 1 (.int .i64 (ws k).2)).wrapAt (ws k).2
          · exact (HT.out.setCell _ _).alloc _
          · have := block_alloc (set1 HF.out (.int .i64 (ws k).2)) (.cells #[.iface vt vv, .int .i64 (ws k).2] 46)
            rw [hl]; simpa [firstOf] using this
          · exact block_alloc (set_far HR.out ⟨w.heap.size + 1, 1, none⟩ (by simp) _) _
        case measure => simp [intOf]; omega
    · have hke : k = min len 60 := by omega
      obtain ⟨a0, a1, a2, q0, q1, q2⟩ := Tri.of HF.out
      obtain ⟨b0, b1, b2, r0, r1, r2⟩ := Tri.of HR.out
      clear hb
      have HK := Lib.hid hke
      by_cases hl60 : len ≤ 60
      · have hle : len ≤ k := by omega
        clear hke hkn hl60
        go_wp2
        go_region
        all_goals
          go_wp2
          refine bodyPost_ret (v := .tuple #[.iface vt vv, .agg #[.int .i64 22, .int .i64 ((firstOf false (lst ws k)).getD 0), .int .i64 ((firstOf true (lst ws k)).getD 0)]]) (by simp [results, Tryd.results7, go_sem, b0, b1, b2]) rfl ⟨.iface vt vv, ⟨w.heap.size + 2, 0, none⟩, by rw [← HK.out], ?_, ?_, ?_⟩
          · rw [← HK.out]
            exact Chn.drew (Chn3.set (Chn3.set (Chn3.set ⟨HC.out, _, _, _, _, HR.out⟩ _ _) _ _) _ _).1
          · exact (((HT.out.setCell _ _).setCell _ _).setCell _ _).drew
          · repeat' first | exact HB.out | refine Below.drew ?_ | refine Below.setCell ?_ ?_ _ | (simp; done)
      · have hlt : k < len := by omega
        have hle : 60 ≤ k := by omega
        clear hke hkn hl60
        go_wp2
        go_region
        all_goals
          go_wp2
          refine bodyPost_ret (v := .tuple #[.iface vt vv, .agg #[.int .i64 22, .int .i64 ((firstOf false (lst ws k)).getD 0), .int .i64 ((firstOf true (lst ws k)).getD 0)]]) (by simp [results, Tryd.results7, go_sem, b0, b1, b2]) rfl ⟨.iface vt vv, ⟨w.heap.size + 2, 0, none⟩, by rw [← HK.out], ?_, ?_, ?_⟩
          · rw [← HK.out]
            exact Chn.drew (Chn3.set (Chn3.set (Chn3.set ⟨HC.out, _, _, _, _, HR.out⟩ _ _) _ _) _ _).1
          · exact (((HT.out.setCell _ _).setCell _ _).setCell _ _).drew
          · repeat' first | exact HB.out | refine Below.drew ?_ | refine Below.setCell ?_ ?_ _ | (simp; done)

set_option maxRecDepth 100000 in
set_option maxHeartbeats 8000000 in
theorem build_ln (c : Int) (hc : c < 0) (o : Option Addr) (cap : Nat) (ws : Nat → Bool × Int) (w : World) (s : Nat → Addr) (hs : Snt w s) :
    Calls Tryd.prog 7 #[.int .i64 c, .slice o 0 cap] w fun e w' => ∃ v a, e = .returned (.tuple #[v, .agg #[.int .i64 22, .int .i64 ((firstOf false (lst ws (min 0 60))).getD 0), .int .i64 ((firstOf true (lst ws (min 0 60))).getD 0)]]) ∧
      Chn w' (lst ws (min 0 60)) v (bot a) ∧ Rt w' s a (22 : Nat) ∧ Below w.heap.size w w' := by
  have hb0 : Below w.heap.size w (w.alloc (.cells #[.int .i64 0, .int .i64 0, .int .i64 0] 26)) := (Below.refl _ _).alloc (Nat.le_refl _) _
  have HO := Lib.hid (of_none (w.alloc (.cells #[.int .i64 0, .int .i64 0, .int .i64 0] 26)) c (by omega))
  have HS := Lib.hid hs
  have hc2 : (c == 0) = false := beq_eq_false_iff_ne.2 (by omega)
  have hc3 : (c == 22) = false := beq_eq_false_iff_ne.2 (by omega)
  clear hs hb0
  go_enter Tryd.func7, Tryd.ntmps7
  go_wp2_with fail
  refine HO.out.mono ?_
  rintro e w' ⟨rfl, rfl⟩
  go_wp2_with fail
  refine (new_any _ _).mono ?_
  rintro e w' ⟨rfl, rfl⟩
  unfold bot
  go_wp2
  go_loopw [6, 8] (fun e i wr => BRel w s (w.heap.size + 1) w.heap.size ws (min 0 60) (22 : Nat) ⟨w.heap.size + 2, 0, none⟩ e i wr) (fun _ i _ => 60 - (intOf i).toNat)
  case atStart =>
    refine ⟨0, rfl, Nat.zero_le _, (((Below.refl _ _).alloc (Nat.le_refl _) _).alloc (by simp) _).alloc (by simp; omega) _, rfl, ?_, ?_, ?_⟩
    · have := (HS.out.below (((Below.refl _ _).alloc (Nat.le_refl _) (.cells #[.int .i64 0, .int .i64 0, .int .i64 0] 26)).alloc (by simp) (.cells #[.int .i64 22, .int .i64 0, .int .i64 0] 26))).fresh { data := #[101, 108, 115, 101, 119, 104, 101, 114, 101] }
      simpa using this
    · have := block_alloc (new_block (w.alloc (.cells #[.int .i64 0, .int .i64 0, .int .i64 0] 26)) (.cells #[.int .i64 22, .int .i64 0, .int .i64 0] 26) (Below.refl _ _)) (.cells #[.string { data := #[101, 108, 115, 101, 119, 104, 101, 114, 101] }] 55)
      simpa [firstOf, lst] using this
    · exact block_alloc (block_alloc (new_block w _ (Below.refl _ _)) _) _
  case round =>
    obtain ⟨k, rfl, hk, hb, hch, ht, hF, hR⟩ := hrel
    obtain ⟨vt, vv, rfl⟩ := hch.held ⟨_, _, rfl⟩
    have HB := Lib.hid hb
    have HC := Lib.hid hch
    have HT := Lib.hid ht
    have HF := Lib.hid hF
    have HR := Lib.hid hR
    have hz := hb.size
    have hfz := lt_of_block hF
    clear hch hF hR ht
    · obtain ⟨a0, a1, a2, q0, q1, q2⟩ := Tri.of HF.out
      obtain ⟨b0, b1, b2, r0, r1, r2⟩ := Tri.of HR.out
      clear hb
      have hke : k = min 0 60 := by omega
      have HK := Lib.hid hke
      have hle : k ≤ 0 := by omega
      clear hke hk
      · skip
        go_wp2
        go_region
        all_goals
          go_wp2
          refine bodyPost_ret (v := .tuple #[.iface vt vv, .agg #[.int .i64 22, .int .i64 ((firstOf false (lst ws k)).getD 0), .int .i64 ((firstOf true (lst ws k)).getD 0)]]) (by simp [results, Tryd.results7, go_sem, b0, b1, b2]) rfl ⟨.iface vt vv, ⟨w.heap.size + 2, 0, none⟩, by rw [← HK.out], ?_, ?_, ?_⟩
          · rw [← HK.out]
            exact Chn.drew (Chn3.set (Chn3.set (Chn3.set ⟨HC.out, _, _, _, _, HR.out⟩ _ _) _ _) _ _).1
          · exact (((HT.out.setCell _ _).setCell _ _).setCell _ _).drew
          · repeat' first | exact HB.out | refine Below.drew ?_ | refine Below.setCell ?_ ?_ _ | (simp; done)

set_option maxRecDepth 100000 in
set_option maxHeartbeats 8000000 in
theorem build_gs (c : Int) (hc : 22 < c) (b off len cap : Nat) (ws : Nat → Bool × Int) (w : World) (s : Nat → Addr) (hs : Snt w s) (hw : WrapsAt w b off len ws) (hlen : len ≤ 9223372036854775807) :
    Calls Tryd.prog 7 #[.int .i64 c, .slice (some ⟨b, off, none⟩) len cap] w fun e w' => ∃ v a, e = .returned (.tuple #[v, .agg #[.int .i64 22, .int .i64 ((firstOf false (lst ws (min len 60))).getD 0), .int .i64 ((firstOf true (lst ws (min len 60))).getD 0)]]) ∧
      Chn w' (lst ws (min len 60)) v (bot a) ∧ Rt w' s a (22 : Nat) ∧ Below w.heap.size w w' := by
  have hb0 : Below w.heap.size w (w.alloc (.cells #[.int .i64 0, .int .i64 0, .int .i64 0] 26)) := (Below.refl _ _).alloc (Nat.le_refl _) _
  have HW := Lib.hid hw
  clear hw
  have HO := Lib.hid (of_none (w.alloc (.cells #[.int .i64 0, .int .i64 0, .int .i64 0] 26)) c (by omega))
  have HS := Lib.hid hs
  have hc2 : (c == 0) = false := beq_eq_false_iff_ne.2 (by omega)
  have hc3 : (c == 22) = false := beq_eq_false_iff_ne.2 (by omega)
  have hc0 : 0 ≤ c := by omega
  clear hs hb0
  go_enter Tryd.func7, Tryd.ntmps7
  go_wp2_with fail
  refine HO.out.mono ?_
  rintro e w' ⟨rfl, rfl⟩
  go_wp2_with fail
  refine (new_any _ _).mono ?_
  rintro e w' ⟨rfl, rfl⟩
  unfold bot
  go_wp2
  go_loopw [6, 8] (fun e i wr => BRel w s (w.heap.size + 1) w.heap.size ws (min len 60) (22 : Nat) ⟨w.heap.size + 2, 0, none⟩ e i wr) (fun _ i _ => 60 - (intOf i).toNat)
  case atStart =>
    refine ⟨0, rfl, Nat.zero_le _, (((Below.refl _ _).alloc (Nat.le_refl _) _).alloc (by simp) _).alloc (by simp; omega) _, rfl, ?_, ?_, ?_⟩
    · have := (HS.out.below (((Below.refl _ _).alloc (Nat.le_refl _) (.cells #[.int .i64 0, .int .i64 0, .int .i64 0] 26)).alloc (by simp) (.cells #[.int .i64 22, .int .i64 0, .int .i64 0] 26))).fresh { data := #[101, 108, 115, 101, 119, 104, 101, 114, 101] }
      simpa using this
    · have := block_alloc (new_block (w.alloc (.cells #[.int .i64 0, .int .i64 0, .int .i64 0] 26)) (.cells #[.int .i64 22, .int .i64 0, .int .i64 0] 26) (Below.refl _ _)) (.cells #[.string { data := #[101, 108, 115, 101, 119, 104, 101, 114, 101] }] 55)
      simpa [firstOf, lst] using this
    · exact block_alloc (block_alloc (new_block w _ (Below.refl _ _)) _) _
  case round =>
    obtain ⟨k, rfl, hk, hb, hch, ht, hF, hR⟩ := hrel
    obtain ⟨vt, vv, rfl⟩ := hch.held ⟨_, _, rfl⟩
    have HB := Lib.hid hb
    have HC := Lib.hid hch
    have HT := Lib.hid ht
    have HF := Lib.hid hF
    have HR := Lib.hid hR
    have hz := hb.size
    have hfz := lt_of_block hF
    clear hch hF hR ht
    by_cases hkn : k < min len 60
    · have hk1 : k < len := by omega
      have hk2 : k < 60 := by omega
      obtain ⟨e1, e2⟩ := HW.out k hk1
      have hbl : b < w.heap.size := lt_of_cell e1
      have g1 : wr.cell? ⟨b, off + k * 2, none⟩ = some (.bool (ws k).1) := by rw [hb.cell hbl]; exact e1
      have g2 : wr.cell? ⟨b, off + k * 2 + 1, none⟩ = some (.int .i64 (ws k).2) := by rw [hb.cell hbl]; exact e2
      clear e1 e2 hb
      have hin' : (ws k).1 = true ∨ (ws k).1 = false := by cases (ws k).1 <;> simp
      rcases hin' with hin' | hin'
      · have hin := hin'
        rw [hin] at g1
        have HI := Lib.hid hin
        clear hin hin'
        have hbw : b < wr.heap.size := by omega
        go_wp2_with fail
        refine (wrap_In vt vv _ _).mono ?_
        rintro e w' ⟨rfl, rfl⟩
        have g3 : (wr.alloc (.cells #[.iface vt vv, .int .i64 (ws k).2] 51)).cell? ⟨b, off + k * 2 + 1, none⟩ = some (.int .i64 (ws k).2) := by rw [World.cell?_alloc_lt _ _ _ hbw]; exact g2
        obtain ⟨a0, a1, a2, q0, q1, q2⟩ := Tri.of (block_alloc HF.out (.cells #[.iface vt vv, .int .i64 (ws k).2] 51))
        go_wp2
        go_roundw
        case rel =>
          have hl : lst ws (k + 1) = (true, (ws k).2) :: lst ws k := by show ws k :: _ = _; rw [← HI.out]
          refine ⟨k + 1, by go_num, by omega, ?_, ?_, ?_, ?_, ?_⟩
          · exact (HB.out.setCell (p := ⟨w.heap.size + 1, 2, none⟩) (by simp) _).alloc (by simpa using hz) _
          · rw [hl]; simpa using (HC.out.set3 HF.out 2 (.int .i64 (ws k).2)).wrapIn (ws k).2
          · exact (HT.out.setCell _ _).alloc _
          · have := block_alloc (set2 HF.out (.int .i64 (ws k).2)) (.cells #[.iface vt vv, .int .i64 (ws k).2] 51)
            rw [hl]; simpa [firstOf] using this
          · exact block_alloc (set_far HR.out ⟨w.heap.size + 1, 2, none⟩ (by simp) _) _
        case measure => simp [intOf]; omega
      · have hin := hin'
        rw [hin] at g1
        have HI := Lib.hid hin
        clear hin hin'
        have hbw : b < wr.heap.size := by omega
        go_wp2_with fail
        refine (wrap_At vt vv _ _).mono ?_
        rintro e w' ⟨rfl, rfl⟩
        have g3 : (wr.alloc (.cells #[.iface vt vv, .int .i64 (ws k).2] 46)).cell? ⟨b, off + k * 2 + 1, none⟩ = some (.int .i64 (ws k).2) := by rw [World.cell?_alloc_lt _ _ _ hbw]; exact g2
        obtain ⟨a0, a1, a2, q0, q1, q2⟩ := Tri.of (block_alloc HF.out (.cells #[.iface vt vv, .int .i64 (ws k).2] 46))
        go_wp2
        go_roundw
        case rel =>
          have hl : lst ws (k + 1) = (false, (ws k).2) :: lst ws k := by show ws k :: _ = _; rw [← HI.out]
          refine ⟨k + 1, by go_num, by omega, ?_, ?_, ?_, ?_, ?_⟩
          · exact (HB.out.setCell (p := ⟨w.heap.size + 1, 1, none⟩) (by simp) _).alloc (by simpa using hz) _
          · rw [hl]; simpa using (HC.out.set3 HF.out 1 (.int .i64 (ws k).2)).wrapAt (ws k).2
          · exact (HT.out.setCell _ _).alloc _
          · have := block_alloc (set1 HF.out (.int .i64 (ws k).2)) (.cells #[.iface vt vv, .int .i64 (ws k).2] 46)
            rw [hl]; simpa [firstOf] using this
          · exact block_alloc (set_far HR.out ⟨w.heap.size + 1, 1, none⟩ (by simp) _) _
        case measure => simp [intOf]; omega
    · have hke : k = min len 60 := by omega
      obtain ⟨a0, a1, a2, q0, q1, q2⟩ := Tri.of HF.out
      obtain ⟨b0, b1, b2, r0, r1, r2⟩ := Tri.of HR.out
      clear hb
      have HK := Lib.hid hke
      by_cases hl60 : len ≤ 60
      · have hle : len ≤ k := by omega
        clear hke hkn hl60
        go_wp2
        go_region
        all_goals
          go_wp2
          refine bodyPost_ret (v := .tuple #[.iface vt vv, .agg #[.int .i64 22, .int .i64 ((firstOf false (lst ws k)).getD 0), .int .i64 ((firstOf true (lst ws k)).getD 0)]]) (by simp [results, Tryd.results7, go_sem, b0, b1, b2]) rfl ⟨.iface vt vv, ⟨w.heap.size + 2, 0, none⟩, by rw [← HK.out], ?_, ?_, ?_⟩
          · rw [← HK.out]
            exact Chn.drew (Chn3.set (Chn3.set (Chn3.set ⟨HC.out, _, _, _, _, HR.out⟩ _ _) _ _) _ _).1
          · exact (((HT.out.setCell _ _).setCell _ _).setCell _ _).drew
          · repeat' first | exact HB.out | refine Below.drew ?_ | refine Below.setCell ?_ ?_ _ | (simp; done)
      · have hlt : k < len := by omega
        have hle : 60 ≤ k := by omega
        clear hke hkn hl60
        go_wp2
        go_region
        all_goals
          go_wp2
          refine bodyPost_ret (v := .tuple #[.iface vt vv, .agg #[.int .i64 22, .int .i64 ((firstOf false (lst ws k)).getD 0), .int .i64 ((firstOf true (lst ws k)).getD 0)]]) (by simp [results, Tryd.results7, go_sem, b0, b1, b2]) rfl ⟨.iface vt vv, ⟨w.heap.size + 2, 0, none⟩, by rw [← HK.out], ?_, ?_, ?_⟩
          · rw [← HK.out]
            exact Chn.drew (Chn3.set (Chn3.set (Chn3.set ⟨HC.out, _, _, _, _, HR.out⟩ _ _) _ _) _ _).1
          · exact (((HT.out.setCell _ _).setCell _ _).setCell _ _).drew
          · repeat' first | exact HB.out | refine Below.drew ?_ | refine Below.setCell ?_ ?_ _ | (simp; done)

set_option maxRecDepth 100000 in
set_option maxHeartbeats 8000000 in
theorem build_gn (c : Int) (hc : 22 < c) (o : Option Addr) (cap : Nat) (ws : Nat → Bool × Int) (w : World) (s : Nat → Addr) (hs : Snt w s) :
    Calls Tryd.prog 7 #[.int .i64 c, .slice o 0 cap] w fun e w' => ∃ v a, e = .returned (.tuple #[v, .agg #[.int .i64 22, .int .i64 ((firstOf false (lst ws (min 0 60))).getD 0), .int .i64 ((firstOf true (lst ws (min 0 60))).getD 0)]]) ∧
      Chn w' (lst ws (min 0 60)) v (bot a) ∧ Rt w' s a (22 : Nat) ∧ Below w.heap.size w w' := by
  have hb0 : Below w.heap.size w (w.alloc (.cells #[.int .i64 0, .int .i64 0, .int .i64 0] 26)) := (Below.refl _ _).alloc (Nat.le_refl _) _
  have HO := Lib.hid (of_none (w.alloc (.cells #[.int .i64 0, .int .i64 0, .int .i64 0] 26)) c (by omega))
  have HS := Lib.hid hs
  have hc2 : (c == 0) = false := beq_eq_false_iff_ne.2 (by omega)
  have hc3 : (c == 22) = false := beq_eq_false_iff_ne.2 (by omega)
  have hc0 : 0 ≤ c := by omega
  clear hs hb0
  go_enter Tryd.func7, Tryd.ntmps7
  go_wp2_with fail
  refine HO.out.mono ?_
  rintro e w' ⟨rfl, rfl⟩
  go_wp2_with fail
  refine (new_any _ _).mono ?_
  rintro e w' ⟨rfl, rfl⟩
  unfold bot
  go_wp2
  go_loopw [6, 8] (fun e i wr => BRel w s (w.heap.size + 1) w.heap.size ws (min 0 60) (22 : Nat) ⟨w.heap.size + 2, 0, none⟩ e i wr) (fun _ i _ => 60 - (intOf i).toNat)
  case atStart =>
    refine ⟨0, rfl, Nat.zero_le _, (((Below.refl _ _).alloc (Nat.le_refl _) _).alloc (by simp) _).alloc (by simp; omega) _, rfl, ?_, ?_, ?_⟩
    · have := (HS.out.below (((Below.refl _ _).alloc (Nat.le_refl _) (.cells #[.int .i64 0, .int .i64 0, .int .i64 0] 26)).alloc (by simp) (.cells #[.int .i64 22, .int .i64 0, .int .i64 0] 26))).fresh { data := #[101, 108, 115, 101, 119, 104, 101, 114, 101] }
      simpa using this
    · have := block_alloc (new_block (w.alloc (.cells #[.int .i64 0, .int .i64 0, .int .i64 0] 26)) (.cells #[.int .i64 22, .int .i64 0, .int .i64 0] 26) (Below.refl _ _)) (.cells #[.string { data := #[101, 108, 115, 101, 119, 104, 101, 114, 101] }] 55)
      simpa [firstOf, lst] using this
    · exact block_alloc (block_alloc (new_block w _ (Below.refl _ _)) _) _
  case round =>
    obtain ⟨k, rfl, hk, hb, hch, ht, hF, hR⟩ := hrel
    obtain ⟨vt, vv, rfl⟩ := hch.held ⟨_, _, rfl⟩
    have HB := Lib.hid hb
    have HC := Lib.hid hch
    have HT := Lib.hid ht
    have HF := Lib.hid hF
    have HR := Lib.hid hR
    have hz := hb.size
    have hfz := lt_of_block hF
    clear hch hF hR ht
    · obtain ⟨a0, a1, a2, q0, q1, q2⟩ := Tri.of HF.out
      obtain ⟨b0, b1, b2, r0, r1, r2⟩ := Tri.of HR.out
      clear hb
      have hke : k = min 0 60 := by omega
      have HK := Lib.hid hke
      have hle : k ≤ 0 := by omega
      clear hke hk
      · skip
        go_wp2
        go_region
        all_goals
          go_wp2
          refine bodyPost_ret (v := .tuple #[.iface vt vv, .agg #[.int .i64 22, .int .i64 ((firstOf false (lst ws k)).getD 0), .int .i64 ((firstOf true (lst ws k)).getD 0)]]) (by simp [results, Tryd.results7, go_sem, b0, b1, b2]) rfl ⟨.iface vt vv, ⟨w.heap.size + 2, 0, none⟩, by rw [← HK.out], ?_, ?_, ?_⟩
          · rw [← HK.out]
            exact Chn.drew (Chn3.set (Chn3.set (Chn3.set ⟨HC.out, _, _, _, _, HR.out⟩ _ _) _ _) _ _).1
          · exact (((HT.out.setCell _ _).setCell _ _).setCell _ _).drew
          · repeat' first | exact HB.out | refine Below.drew ?_ | refine Below.setCell ?_ ?_ _ | (simp; done)

/-- What a code that is none of the known ones becomes. -/
def codeNo (c : Int) : Nat := if 1 ≤ c ∧ c ≤ 21 then c.toNat else 22

/-- A slice of wraps as a value. -/
def Wraps (w : World) (sl : Value) (len : Nat) (ws : Nat → Bool × Int) : Prop :=
  (∃ o cap, sl = .slice o 0 cap ∧ len = 0) ∨ ∃ b off cap, sl = .slice (some ⟨b, off, none⟩) len cap ∧ WrapsAt w b off len ws ∧ len ≤ 9223372036854775807

theorem build_any (c : Int) (h0 : c ≠ 0) (h22 : c ≠ 22) (sl : Value) (len : Nat) (ws : Nat → Bool × Int) (w : World) (s : Nat → Addr) (hs : Snt w s) (hw : Wraps w sl len ws) :
    Calls Tryd.prog 7 #[.int .i64 c, sl] w fun e w' => ∃ v a, e = .returned (.tuple #[v, .agg #[.int .i64 (codeNo c), .int .i64 ((firstOf false (lst ws (min len 60))).getD 0), .int .i64 ((firstOf true (lst ws (min len 60))).getD 0)]]) ∧
      Chn w' (lst ws (min len 60)) v (bot a) ∧ Rt w' s a (codeNo c) ∧ Below w.heap.size w w' := by
  by_cases hc : 1 ≤ c ∧ c ≤ 21
  · have e : codeNo c = c.toNat := by simp [codeNo, hc]
    have e2 : ((c.toNat : Nat) : Int) = c := by omega
    rw [e]
    rcases hw with ⟨o, cap, rfl, rfl⟩ | ⟨b, off, cap, rfl, hw, hl⟩
    · have := build_sn c.toNat (by omega) (by omega) o cap ws w s hs
      rw [e2] at this ⊢; exact this
    · have := build_ss c.toNat (by omega) (by omega) b off len cap ws w s hs hw hl
      rw [e2] at this ⊢; exact this
  · have e : codeNo c = 22 := by simp [codeNo, hc]
    rw [e]
    rcases (by omega : c < 0 ∨ 22 < c) with hc' | hc'
    · rcases hw with ⟨o, cap, rfl, rfl⟩ | ⟨b, off, cap, rfl, hw, hl⟩
      · exact build_ln c hc' o cap ws w s hs
      · exact build_ls c hc' b off len cap ws w s hs hw hl
    · rcases hw with ⟨o, cap, rfl, rfl⟩ | ⟨b, off, cap, rfl, hw, hl⟩
      · exact build_gn c hc' o cap ws w s hs
      · exact build_gs c hc' b off len cap ws w s hs hw hl
end Go.Proofs.YtmihmaajfcdofaaDoorR
