import Derived.Test.YtnpkcllbpnmabaaGreatDoorKPu
import Derived.Test.YtnpkcllbpnmabaaGreatDoorKTb
import Derived.Lib.SlBytesConst
namespace Go.Proofs.YtnpkcllbpnmabaaGreatDoor
open Go.RowKit
def quo1 (ext : Bool) (c : Int) : List Int := if c = 10 then [92, 110] else if mayQ c ext = true then [92, c] else [c]
def quoR (ext : Bool) (l : List Int) : List Int := (l.map (quo1 ext)).flatten
theorem quoR_cons (ext : Bool) (c : Int) (l : List Int) : quoR ext (c :: l) = quo1 ext c ++ quoR ext l := rfl
theorem quo1_pos (ext : Bool) (c : Int) : 1 ≤ (quo1 ext c).length := by unfold quo1; (repeat' split) <;> simp
theorem mayQ_all {c : Int} {ext : Bool} (h : mayQ c ext = false) : c ≠ 92 ∧ c ≠ 46 ∧ c ≠ 91 ∧ c ≠ 94 ∧ c ≠ 36 ∧ c ≠ 42 ∧ (ext = true → c ≠ 40 ∧ c ≠ 41 ∧ c ≠ 123 ∧ c ≠ 43 ∧ c ≠ 63 ∧ c ≠ 124) := by
 unfold mayQ at h
 split at h
 ·rename_i hc
  subst h
  refine ⟨?_, ?_, ?_, ?_, ?_, ?_, fun h => by cases h⟩ <;> omega
 ·rename_i hc
  simp only [decide_eq_false_iff_not] at h
  refine ⟨?_, ?_, ?_, ?_, ?_, ?_, fun _ => ⟨?_, ?_, ?_, ?_, ?_, ?_⟩⟩ <;> omega
theorem getD_drop (l : List Int) (k i : Nat) : l.getD (k + i) 0 = (l.drop k).getD i 0 := by simp [List.getD, List.getElem?_drop]
theorem sgT_quo {l : List Int} {k : Nat} {ext : Bool} {c : Int} {r : List Int} (h : l.drop k = quo1 ext c ++ r) : sgT l k = quo1 ext c := by
 have hp := quo1_pos ext c
 have hl := congrArg List.length h
 rw [List.length_drop, List.length_append] at hl
 have h0 : l.getD k 0 = (l.drop k).getD 0 0 := by rw [← getD_drop]; rfl
 have h1 : l.getD (k + 1) 0 = (l.drop k).getD 1 0 := getD_drop l k 1
 rw [h] at h0 h1
 unfold sgT
 rw [if_pos (by omega), h0, h1]
 unfold quo1 at *
 by_cases hc : c = 10
 ·rw [if_pos hc] at *
  simp at hl ⊢
  omega
 ·rw [if_neg hc] at *
  by_cases hm : mayQ c ext = true
  ·rw [if_pos hm] at *
   simp at hl ⊢
   omega
  ·rw [if_neg hm] at *
   have := (mayQ_all (by simpa using hm)).1
   simp [this]
theorem role_quo (ext : Bool) (c : Int) : roleC (quo1 ext c) ext = 0 := by
 unfold quo1
 by_cases hc : c = 10
 ·rw [if_pos hc]
  cases ext <;> decide
 ·rw [if_neg hc]
  by_cases hm : mayQ c ext = true
  ·rw [if_pos hm]
   unfold roleC
   rw [if_neg (by simp)]
   cases ext with
   | true => split <;> simp
   | false =>
    have hno : ¬ (c = 40 ∨ c = 41 ∨ c = 123) := fun h => by
     unfold mayQ at hm
     rw [if_pos (by omega)] at hm
     cases hm
    rw [if_neg (by simp; omega)]
    simp
  ·rw [if_neg hm]
   have a := mayQ_all (by simpa using hm)
   unfold roleC
   rw [if_neg (by simp), if_neg (by simp)]
   cases ext with
   | true =>
    have b := a.2.2.2.2.2.2 rfl
    rw [if_neg (by simp; omega), if_neg (by simp; omega)]
   | false =>
    split
    ·rfl
    ·rw [if_neg (by simp; omega)]
theorem lit_quo (ext : Bool) (c : Int) : litR (quo1 ext c) ext = .byt c := by
 unfold quo1
 by_cases hc : c = 10
 ·rw [if_pos hc, hc]
  rfl
 ·rw [if_neg hc]
  by_cases hm : mayQ c ext = true
  ·rw [if_pos hm]
   unfold litR
   have h110 : c ≠ 110 := fun h => by rw [h] at hm; cases ext <;> cases hm
   have h125 : ¬ (c = 125 ∧ ext = false) := fun h => by rw [h.1, h.2] at hm; cases hm
   simp [h110, hm]
   intro h1
   cases ext with
   | true => rfl
   | false => exact absurd ⟨h1, rfl⟩ h125
  ·rw [if_neg hm]
   have a := mayQ_all (by simpa using hm)
   unfold litR
   simp [a.1]
theorem sg_quo (cf : ByteArray → (Nat → Bool) × Bool) {l : List Int} {k : Nat} {ext : Bool} {c : Int} {r : List Int} (h : l.drop k = quo1 ext c ++ r) : sg cf l ext k = ⟨0, quo1 ext c, setN (mem [c]), 0, 0, none, k + (quo1 ext c).length⟩ := by
 unfold sg sgR
 rw [sgT_quo h, role_quo, if_pos rfl, lit_quo]
theorem byt_quo (ext : Bool) (c : Int) (s : Sg) (h : s.tx = quo1 ext c) (nk : Nat) (items : List Nd) : isByt ext s nk items = false := by
 unfold isByt
 cases ext with
 | true => rfl
 | false =>
  rw [if_neg (by simp), h]
  unfold quo1
  by_cases hc : c = 10
  ·rw [if_pos hc]; simp
  ·rw [if_neg hc]
   by_cases hm : mayQ c false = true
   ·rw [if_pos hm]; simp
   ·rw [if_neg hm]
    have a := mayQ_all (by simpa using hm)
    simp [a.2.2.2.1, a.2.2.2.2.1, a.2.2.2.2.2.1]
theorem rdR_quo (cf : ByteArray → (Nat → Bool) × Bool) (l : List Int) (ext : Bool) (g o : Nat) : ∀ (s : List Int) (n : Nat) (items : List Nd) (k : Nat), l.drop k = quoR ext s → k ≤ l.length → s.length + 1 ≤ n → (items ≠ [] ∨ s ≠ []) → rdR cf l ext n (.br items) k g o = some (.ok (joinN 4 (items ++ s.map fun c => setN (mem [c]))) l.length g)
 | [], n, items, k, h, hk, hn, hne => by
  obtain ⟨m, rfl⟩ : ∃ m, n = m + 1 := ⟨n - 1, by simp at hn; omega⟩
  have hl := congrArg List.length h
  rw [List.length_drop] at hl
  have hke : k = l.length := by simp [quoR] at hl; omega
  subst hke
  rw [rdR_br, sg_end cf l ext l.length (by omega), if_pos (by rfl), if_neg (by simpa using hne)]
  simp
 | c :: s, n, items, k, h, hk, hn, _ => by
  obtain ⟨m, rfl⟩ : ∃ m, n = m + 1 := ⟨n - 1, by simp at hn; omega⟩
  rw [quoR_cons] at h
  have hs := sg_quo cf h
  have hl := congrArg List.length h
  rw [List.length_drop, List.length_append] at hl
  have hp := quo1_pos ext c
  have hd : l.drop (k + (quo1 ext c).length) = quoR ext s := by
   rw [← List.drop_drop, h, List.drop_left]
  have ih := rdR_quo cf l ext g o s m (items ++ [setN (mem [c])]) (k + (quo1 ext c).length) hd (by omega) (by simp at hn; omega) (Or.inl (by simp))
  rw [rdR_br, byt_quo ext c _ (by rw [hs]), hs]
  rw [if_neg (by simp [endsB]), if_neg (by simp), if_neg (by simp), if_neg (by simp)]
  dsimp only
  rw [ih, List.map_cons, List.append_assoc]
  rfl
theorem parse_quo (cf : ByteArray → (Nat → Bool) × Bool) (ext : Bool) (s : List Int) (hs : s ≠ []) (hl : (quoR ext s).length ≤ 256) : ∃ k, parseN cf (quoR ext s) ext (fuelR (quoR ext s)) = some (.ok (joinN 4 (s.map fun c => setN (mem [c]))) k 0) := by
 have hlen : s.length ≤ (quoR ext s).length := by
  clear hs hl
  induction s with
  | nil => simp
  | cons c s ih =>
   rw [quoR_cons, List.length_append, List.length_cons]
   have := quo1_pos ext c
   omega
 have h := rdR_quo cf (quoR ext s) ext 0 0 s (2 * (quoR ext s).length + 1) [] 0 (by simp) (Nat.zero_le _) (by omega) (Or.inr hs)
 refine ⟨(quoR ext s).length, ?_⟩
 unfold parseN fuelR
 rw [if_neg (by omega), rdR_re, h]
 dsimp only
 rw [sg_end cf _ ext _ (Nat.lt_irrefl _), if_neg (by decide)]
 dsimp only
 rw [sg_end cf _ ext _ (Nat.lt_irrefl _), if_pos rfl]
 rfl
theorem quoR_app (ext : Bool) (a b : List Int) : quoR ext (a ++ b) = quoR ext a ++ quoR ext b := by unfold quoR; rw [List.map_append, List.flatten_append]
theorem quoR_one (ext : Bool) (c : Int) : quoR ext [c] = quo1 ext c := by unfold quoR; simp
theorem quo1_le (ext : Bool) (c : Int) : (quo1 ext c).length ≤ 2 := by unfold quo1; (repeat' split) <;> simp
theorem quoR_len (ext : Bool) : ∀ l : List Int, (quoR ext l).length ≤ 2 * l.length
 | [] => by simp [quoR]
 | c :: l => by
  have h1 := quoR_len ext l
  have h2 := quo1_le ext c
  rw [quoR_cons, List.length_append, List.length_cons]
  omega
theorem quoR_byt {l : List Int} (h : Byt l) (ext : Bool) : Byt (quoR ext l) := by
 apply byt_ofR
 intro c hc
 unfold quoR at hc
 rw [List.mem_flatten] at hc
 obtain ⟨x, hx, hcx⟩ := hc
 rw [List.mem_map] at hx
 obtain ⟨d, hd, rfl⟩ := hx
 have hb : 0 ≤ d ∧ d ≤ 255 := by
  obtain ⟨i, hi, rfl⟩ := List.getElem_of_mem hd
  have := h i
  rw [List.getD_eq_getElem?_getD, List.getElem?_eq_getElem hi] at this
  exact this
 unfold quo1 at hcx
 split at hcx
 ·simp at hcx; omega
 split at hcx
 ·simp at hcx; omega
 ·simp at hcx; omega
theorem take_nextR (s : ByteArray) (k : Nat) (h : k < s.size) : (bys s).take (k + 1) = (bys s).take k ++ [(s[k].toNat : Int)] := by
 have hl : k < (bys s).length := by rw [bys_length]; exact h
 rw [List.take_succ_eq_append_getElem hl]
 congr 2
 have := bys_getD s k h
 rwa [List.getD_eq_getElem?_getD, List.getElem?_eq_getElem hl, Option.getD_some] at this
structure QrI (w : World) (s : ByteArray) (ext : Bool) (k : Nat) (v : Value) (X : World) : Prop where
 hk : k ≤ s.size
 bel : Below w.heap.size w X
 own : X.ownsRow w.heap.size 5 1 v (quoR ext ((bys s).take k)).length ((quoR ext ((bys s).take k)).map (Value.int .u8))
set_option maxRecDepth 100000 in
set_option maxHeartbeats 8000000 in
theorem rquote_any (s : ByteArray) (ext : Bool) (w : World) (hs : s.size ≤ 1048576) :
  Calls Tryz.prog 6 #[.string s, .bool ext] w fun e w' => e = .returned (.string (ofBys (quoR ext (bys s)))) ∧ Below w.heap.size w w' := by
 obtain ⟨i0, hi, hz0, hz1, hz2⟩ := info_parts byte_row
 have HI0 : Hid (QrI w s ext 0 (.slice none 0 0) w) := Lib.hid ⟨Nat.zero_le _, Below.refl _ _, World.ownsRow_nil _ _ _ _⟩
 have HI := Lib.hid hi
 have HZ0 := Lib.hid hz0
 have HZ1 := Lib.hid hz1
 have HZ2 := Lib.hid hz2
 clear hi hz0 hz1 hz2
 go_enter Tryz.func6, Tryz.ntmps6
 go_wp2_with fail
 go_loopg [5, 10] s.size (fun g v i X => ∃ k : Nat, g = s.size - k ∧ i = .int .i64 k ∧ Aside (QrI w s ext k v X))
 case atStart => exact ⟨0, by omega, rfl, HI0.out⟩
 case round =>
  obtain ⟨k, rfl, rfl, hal⟩ := hrel
  have hI := hal.out
  have hk := hI.hk
  have hql := quoR_len ext ((bys s).take k)
  rw [List.length_take, bys_length] at hql
  obtain ⟨a0, cap0, hv0⟩ := own_shapeT hI.own
  subst hv0
  have HQ := Lib.hid hI
  have hws := hI.bel.size
  by_cases hlt : k < s.size
  ·have hkI : (k : Int) < (s.size : Int) := by omega
   have HTN : Hid (quoR ext ((bys s).take (k + 1)) = quoR ext ((bys s).take k) ++ quo1 ext (s[k].toNat : Int)) := Lib.hid (by rw [take_nextR s k hlt, quoR_app, quoR_one])
   have hc256 : s[k].toNat < 256 := s[k].toNat_lt
   obtain ⟨c, hc⟩ : ∃ c, c = s[k].toNat := ⟨_, rfl⟩
   have HCC := Lib.hid hc
   rw [← hc] at HTN hc256
   clear hc
   have hat : s[k].toNat = c := HCC.out.symm
   obtain ⟨xs, hxs⟩ : ∃ xs, xs = (quoR ext ((bys s).take k)).map (Value.int .u8) := ⟨_, rfl⟩
   obtain ⟨nq, hnq⟩ : ∃ nq, nq = (quoR ext ((bys s).take k)).length := ⟨_, rfl⟩
   have hqb : nq ≤ 2097152 := by omega
   have HO : Hid (wr.ownsRow w.heap.size 5 1 (.slice a0 nq cap0) nq xs) := Lib.hid (by rw [hxs, hnq]; exact hI.own)
   have HXS := Lib.hid hxs
   have HNQ := Lib.hid hnq
   rw [← hnq]
   clear hal hI hql hxs hnq
   have hcw : ∀ X, (Instr.index 9 (.string s) (.int .i64 (k : Nat))).run Tryz.prog X = .ok (.int .u8 (c : Nat)) X := fun X => by rw [← hat]; simp [go_sem, hkI]
   have HFIN : Hid (∀ (q : List Int) (X X' : World) (v' : Value), quo1 ext (c : Int) = q → Below w.heap.size w X → X.grownBy X' (Value.slice a0 nq cap0).ownBlock → X'.ownsRow w.heap.size 5 1 v' (nq + q.length) (xs ++ q.map (Value.int .u8)) → QrI w s ext (k + 1) v' X') := Lib.hid (fun q X X' v' hq hX hg ho => ⟨by omega, hX.grown hg hX.size (fun j hj => (own_ltB HO.out hj).1), by
    rw [HTN.out, hq, List.length_append, List.map_append, ← HXS.out, ← HNQ.out]
    exact ho⟩)
   by_cases h10 : c = 10
   ·have HQ1 : Hid (quo1 ext (c : Int) = [92, 110]) := Lib.hid (by unfold quo1; rw [if_pos (by omega)])
    have e10 : ((c : Int) == 10) = true := by simp; omega
    clear hat
    go_wp2_with (at_builtin; refine Lib.wpList_append_own_string _ rfl _ _ 25 9 rfl w.heap.size 5 i0 Tryz.underlying25 Tryz.underlying9 HI.out HZ0.out HZ1.out HZ2.out (.slice a0 nq cap0) nq xs rfl HO.out ⟨#[92, 110]⟩ rfl ?c3 ?c4 ?c5 ?_)
    case c3 => (unfold maxLen; first | omega | (simp [ByteArray.size]; omega))
    case c4 => first | omega | (simp [ByteArray.size]; omega)
    case c5 => exact hws
    intro v' w2 hown' hgr _
    have HN : Hid (QrI w s ext (k + 1) v' w2) := Lib.hid (HFIN.out _ wr w2 v' HQ1.out HQ.out.bel hgr hown')
    clear hown' hgr
    go_wp2_with fail
    go_roundg (s.size - (k + 1))
    case measure => omega
    case rel => exact ⟨k + 1, rfl, by simp, HN.out⟩
   ·have e10 : ((c : Int) == 10) = false := by simp; omega
    have HM := Lib.hid (mayQ_any (c : Int) ext)
    cases hm : mayQ (c : Int) ext with
    | true =>
     rw [hm] at HM
     have HQ1 : Hid (quo1 ext (c : Int) = [92, (c : Int)]) := Lib.hid (by unfold quo1; rw [if_neg (by omega), if_pos hm])
     clear hat hm
     go_wp2_with fail
     refine (HM.out _).mono ?_
     rintro x w1 ⟨rfl, rfl⟩
     have HB1 : Hid (Below w.heap.size w (w1.alloc (.cells #[.int .u8 92, .int .u8 (c : Int)] 5))) := Lib.hid (HQ.out.bel.alloc hws _)
     have HN1 : Hid ((w1.alloc (.cells #[.int .u8 92, .int .u8 (c : Int)] 5)).heap[w1.heap.size]? = some (.cells #[.int .u8 92, .int .u8 (c : Int)] 5 (0, 0))) := Lib.hid (alloc_last w1 _)
     go_wp2_with (at_builtin; refine wpList_append_own _ rfl _ _ 25 rfl w.heap.size 5 i0 (.int .u8 0) 1 1 Tryz.underlying25 HI.out HZ0.out HZ1.out HZ2.out rfl (by decide) (.slice a0 nq cap0) nq xs rfl (HO.out.alloc _) ⟨w1.heap.size, 0, none⟩ 2 2 [.int .u8 92, .int .u8 (c : Int)] rfl rfl ?c1 ?c2 ?c3 ?c4 ?c5 ?_)
     case c1 => (intro j u hj; rw [addz]; rw [Lib.cell_of_heap HN1.out]; simpa using hj)
     case c2 => (intro u hu; simp at hu; first | (subst hu; rfl) | (rcases hu with rfl | rfl <;> rfl))
     case c3 => (unfold maxLen; omega)
     case c4 => omega
     case c5 => (simp; omega)
     intro v' w4 hown' hgr _
     have HN : Hid (QrI w s ext (k + 1) v' w4) := Lib.hid (HFIN.out _ _ w4 v' HQ1.out HB1.out hgr hown')
     clear hown' hgr
     go_wp2_with fail
     go_roundg (s.size - (k + 1))
     case measure => omega
     case rel => exact ⟨k + 1, rfl, by simp, HN.out⟩
    | false =>
     rw [hm] at HM
     have HQ1 : Hid (quo1 ext (c : Int) = [(c : Int)]) := Lib.hid (by unfold quo1; rw [if_neg (by omega), if_neg (by rw [hm]; decide)])
     clear hat hm
     go_wp2_with fail
     refine (HM.out _).mono ?_
     rintro x w1 ⟨rfl, rfl⟩
     have HB1 : Hid (Below w.heap.size w (w1.alloc (.cells #[.int .u8 (c : Int)] 5))) := Lib.hid (HQ.out.bel.alloc hws _)
     have HN1 : Hid ((w1.alloc (.cells #[.int .u8 (c : Int)] 5)).heap[w1.heap.size]? = some (.cells #[.int .u8 (c : Int)] 5 (0, 0))) := Lib.hid (alloc_last w1 _)
     go_wp2_with (at_builtin; refine wpList_append_own _ rfl _ _ 25 rfl w.heap.size 5 i0 (.int .u8 0) 1 1 Tryz.underlying25 HI.out HZ0.out HZ1.out HZ2.out rfl (by decide) (.slice a0 nq cap0) nq xs rfl (HO.out.alloc _) ⟨w1.heap.size, 0, none⟩ 1 1 [.int .u8 (c : Int)] rfl rfl ?c1 ?c2 ?c3 ?c4 ?c5 ?_)
     case c1 => (intro j u hj; rw [addz]; rw [Lib.cell_of_heap HN1.out]; simpa using hj)
     case c2 => (intro u hu; simp at hu; first | (subst hu; rfl) | (rcases hu with rfl | rfl <;> rfl))
     case c3 => (unfold maxLen; omega)
     case c4 => omega
     case c5 => (simp; omega)
     intro v' w4 hown' hgr _
     have HN : Hid (QrI w s ext (k + 1) v' w4) := Lib.hid (HFIN.out _ _ w4 v' HQ1.out HB1.out hgr hown')
     clear hown' hgr
     go_wp2_with fail
     go_roundg (s.size - (k + 1))
     case measure => omega
     case rel => exact ⟨k + 1, rfl, by simp, HN.out⟩
  ·have hke : k = s.size := by omega
   have HQE : Hid (quoR ext ((bys s).take k) = quoR ext (bys s)) := Lib.hid (by rw [List.take_of_length_le (by rw [bys_length]; omega)])
   have hlen2 : (quoR ext ((bys s).take k)).length ≤ 9223372036854775807 := by omega
   have HSL : Hid (Sl wr (.slice a0 (quoR ext ((bys s).take k)).length cap0) (quoR ext ((bys s).take k))) := Lib.hid (slOwnedM HQ.out.own (by rw [HQE.out]; exact quoR_byt (bys_byt s) ext) hlen2)
   have hcv := conv_string HSL.out
   have hnk : ¬ (k : Int) < (s.size : Int) := by omega
   clear hke hal hI hql hlen2
   go_wp2
   go_ret
   exact ⟨by rw [← HQE.out]; rfl, HQ.out.bel⟩
end Go.Proofs.YtnpkcllbpnmabaaGreatDoor
