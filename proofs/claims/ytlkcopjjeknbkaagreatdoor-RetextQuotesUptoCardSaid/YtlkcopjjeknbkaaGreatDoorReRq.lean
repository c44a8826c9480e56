/- The contract of the reference's Quote (gen_rerq.py). -/
import Derived.Test.YtlkcopjjeknbkaaGreatDoorReQt
namespace Go.Proofs.YtlkcopjjeknbkaaGreatDoor
open Go.RowKit

theorem inR_yes {c : Int} {l : List Int} (j : Nat) (h : j < l.length) (he : l.getD j 0 = c) : inB c l = true := by
  unfold inB
  rw [List.getD, List.getElem?_eq_getElem h] at he
  simp only [Option.getD_some] at he
  simp only [List.contains_iff_mem]
  rw [← he]
  exact List.getElem_mem h
theorem inR_no {c : Int} {l : List Int} (h : ∀ i, i < l.length → ¬ l.getD i 0 = c) : inB c l = false := by
  cases hb : inB c l with
  | false => rfl
  | true =>
    unfold inB at hb
    simp only [List.contains_iff_mem] at hb
    obtain ⟨i, hi, he⟩ := List.getElem_of_mem hb
    exact absurd (by rw [List.getD, List.getElem?_eq_getElem hi]; exact he) (h i hi)
set_option maxHeartbeats 2000000 in
theorem inR_any (c : Int) (t : ByteArray) (w : World) (ht : t.size ≤ 9223372036854775807) :
    Calls Tryz.prog 49 #[.int .u8 c, .string t] w fun e w' => e = .returned (.bool (inB c (bys t))) ∧ w = w' := by
  go_enter Tryz.func49, Tryz.ntmps49
  go_wp2
  go_loop [8] (fun i => ∃ j : Nat, j ≤ t.size ∧ i = .int .i64 j ∧ ∀ i, i < j → ¬ (bys t).getD i 0 = c) (fun i => t.size - (intOf i).toNat)
  case atStart => exact ⟨0, Nat.zero_le _, rfl, fun i hi => absurd hi (by omega)⟩
  case round =>
    obtain ⟨j, hj, rfl, hall⟩ := hrel
    have HA := Lib.hid hall
    clear hall
    by_cases hlt : j < t.size
    · have HG := Lib.hid (bys_getD t j hlt)
      by_cases hc : (t[j].toNat : Int) = c
      · have HY : Hid (true = inB c (bys t)) := (inR_yes j (by rw [bys_length]; exact hlt) (by rw [HG.out]; exact hc)).symm
        have hc' : ((t[j].toNat : Int) == c) = true := by simpa using hc
        clear hc
        go_wp2
        go_ret
        exact ⟨congrArg (fun b => Ending.returned (Value.bool b)) HY.out, rfl⟩
      · have hc' : ((t[j].toNat : Int) == c) = false := by simpa using hc
        have HN : Hid (¬ (bys t).getD j 0 = c) := by rw [HG.out]; exact hc
        clear hc
        go_wp2
        go_round
        case rel =>
          refine ⟨j + 1, by omega, by go_num, fun i hi => ?_⟩
          by_cases hij : i = j
          · rw [hij]; exact HN.out
          · exact HA.out i (by omega)
        case measure => simp [intOf]; omega
    · obtain rfl : j = t.size := by omega
      have HY : Hid (false = inB c (bys t)) := (inR_no (fun i hi => HA.out i (by rw [bys_length] at hi; exact hi))).symm
      go_wp2
      go_ret
      exact ⟨congrArg (fun b => Ending.returned (Value.bool b)) HY.out, rfl⟩
def qBase : ByteArray := ⟨#[46, 91, 93, 42, 94, 36, 47, 92]⟩
def qMore : ByteArray := ⟨#[40, 41, 43, 63, 123, 125, 124]⟩
theorem inB_iff (c : Int) (l : List Int) : inB c l = true ↔ c ∈ l := by unfold inB; exact List.contains_iff_mem
theorem mayQ_in (c : Int) (ext : Bool) : mayQ c ext = (inB c (bys qBase) || (ext && inB c (bys qMore))) := by
  have e1 : bys qBase = [46, 91, 93, 42, 94, 36, 47, 92] := by decide
  have e2 : bys qMore = [40, 41, 43, 63, 123, 125, 124] := by decide
  rw [e1, e2]
  have h1 := inB_iff c [46, 91, 93, 42, 94, 36, 47, 92]
  have h2 := inB_iff c [40, 41, 43, 63, 123, 125, 124]
  simp only [List.mem_cons, List.not_mem_nil, or_false] at h1 h2
  generalize inB c [46, 91, 93, 42, 94, 36, 47, 92] = b1 at *
  generalize inB c [40, 41, 43, 63, 123, 125, 124] = b2 at *
  unfold mayQ
  split
  · rename_i h
    have hb1 : b1 = false := by
      cases b1 with
      | false => rfl
      | true => have := h1.1 rfl; omega
    have hb2 : b2 = true := h2.2 (by omega)
    rw [hb1, hb2]
    simp
  · rename_i h
    have hb2 : b2 = false := by
      cases b2 with
      | false => rfl
      | true => exact absurd (h2.1 rfl) (by omega)
    rw [hb2]
    cases b1 with
    | true => have := h1.1 rfl; simp; omega
    | false =>
      have : ¬ (c = 46 ∨ c = 91 ∨ c = 93 ∨ c = 42 ∨ c = 94 ∨ c = 36 ∨ c = 47 ∨ c = 92) := fun hh => by have := h1.2 (by omega); cases this
      simp; omega
/-- The loop's state. -/
structure RqS (w W1 : World) (s : ByteArray) (ext : Bool) (k : Nat) (v : Value) (X : World) : Prop where
  hk : k ≤ s.size
  bel : Below w.heap.size w X
  bel1 : Below W1.heap.size W1 X
  own : X.ownsRow W1.heap.size 5 1 v (quoR ext ((bys s).take k)).length ((quoR ext ((bys s).take k)).map (Value.int .u8))

set_option maxRecDepth 100000 in
set_option maxHeartbeats 8000000 in
theorem refq_any (s : ByteArray) (ext : Bool) (w : World) (hs : s.size ≤ 1048576) :
    Calls Tryz.prog 22 #[.string s, .bool ext] w fun e w' => e = .returned (.string (ofBys (quoR ext (bys s)))) ∧ Below w.heap.size w w' := by
  obtain ⟨i0, hi, hz0, hz1, hz2⟩ := info_parts byte_row
  obtain ⟨qc, W1, hcv, hsl, hb1⟩ := conv_sl w s (by omega)
  have HBASE : ∀ (c : Nat) X, Hid (Calls Tryz.prog 49 #[.int .u8 (c : Nat), .string ⟨#[46, 91, 93, 42, 94, 36, 47, 92]⟩] X fun e w' => e = .returned (.bool (inB (c : Int) (bys qBase))) ∧ X = w') := fun c X => Lib.hid (inR_any (c : Int) ⟨#[46, 91, 93, 42, 94, 36, 47, 92]⟩ X (by decide))
  have HMORE : ∀ (c : Nat) X, Hid (Calls Tryz.prog 49 #[.int .u8 (c : Nat), .string ⟨#[40, 41, 43, 63, 123, 125, 124]⟩] X fun e w' => e = .returned (.bool (inB (c : Int) (bys qMore))) ∧ X = w') := fun c X => Lib.hid (inR_any (c : Int) ⟨#[40, 41, 43, 63, 123, 125, 124]⟩ X (by decide))
  have HBH := Lib.hid HBASE
  have HMH := Lib.hid HMORE
  have HSL := Lib.hid hsl
  have HB1 := Lib.hid hb1
  have HI0 : Hid (RqS w W1 s ext 0 (.slice none 0 0) W1) := Lib.hid ⟨Nat.zero_le _, hb1, Below.refl _ _, World.ownsRow_nil _ _ _ _⟩
  have HI := Lib.hid hi
  have HZ0 := Lib.hid hz0
  have HZ1 := Lib.hid hz1
  have HZ2 := Lib.hid hz2
  obtain ⟨n, hn⟩ : ∃ n, n = s.size := ⟨_, rfl⟩
  rw [← hn] at hcv hs
  have HN := Lib.hid hn
  have hw1 := hb1.size
  clear hi hz0 hz1 hz2 hsl hb1 hn HBASE HMORE
  go_enter Tryz.func22, Tryz.ntmps22
  go_wp2_with fail
  go_loopg [5, 11] n (fun g v i X => ∃ k : Nat, g = n - k ∧ i = .int .i64 k ∧ Aside (RqS w W1 s ext k v X))
  case atStart => exact ⟨0, by omega, rfl, HI0.out⟩
  case round =>
    obtain ⟨k, rfl, rfl, hal⟩ := hrel
    have hI := hal.out
    have hk := hI.hk
    rw [← HN.out] at hk
    have hql := quoR_len ext ((bys s).take k)
    rw [List.length_take, bys_length, ← HN.out] at hql
    obtain ⟨a0, cap0, hv0⟩ := own_shapeT hI.own
    subst hv0
    have HQ := Lib.hid hI
    have hws := hI.bel1.size
    by_cases hlt : k < n
    · have hkI : (k : Int) < (n : Int) := by omega
      have hltS : k < s.size := by rw [← HN.out]; exact hlt
      have HTN : Hid (quoR ext ((bys s).take (k + 1)) = quoR ext ((bys s).take k) ++ quo1 ext (s[k].toNat : Int)) := Lib.hid (by rw [take_nextR s k hltS, quoR_app, quoR_one])
      have hcell : wr.cell? ⟨w.heap.size, 0 + k, none⟩ = some (.int .u8 (s[k].toNat : Nat)) := by
        rcases HSL.out.2.2 with ⟨h0, _⟩ | ⟨b, o, cp, he, _, _, hr⟩
        · have := congrArg List.length h0; rw [bys_length, List.length_nil] at this; omega
        · simp only [Value.slice.injEq, Option.some.injEq, Addr.mk.injEq] at he
          obtain ⟨⟨rfl, rfl, _⟩, _, rfl⟩ := he
          have h1 := hr k (by rw [bys_length]; exact hltS)
          rw [bys_getD s k hltS] at h1
          exact (hI.bel1.cell (p := ⟨w.heap.size, 0 + k, none⟩) (World.block_lt_of_cell? _ _ h1)).trans h1
      rw [Nat.zero_add] at hcell
      obtain ⟨c, hc⟩ : ∃ c, c = s[k].toNat := ⟨_, rfl⟩
      rw [← hc] at HTN hcell
      clear hc hltS
      obtain ⟨xs, hxs⟩ : ∃ xs, xs = (quoR ext ((bys s).take k)).map (Value.int .u8) := ⟨_, rfl⟩
      obtain ⟨nq, hnq⟩ : ∃ nq, nq = (quoR ext ((bys s).take k)).length := ⟨_, rfl⟩
      have hqb : nq ≤ 2097152 := by omega
      have HO : Hid (wr.ownsRow W1.heap.size 5 1 (.slice a0 nq cap0) nq xs) := Lib.hid (by rw [hxs, hnq]; exact hI.own)
      have HXS := Lib.hid hxs
      have HNQ := Lib.hid hnq
      rw [← hnq]
      have HBR := Lib.hid hI.bel
      have HBR1 := Lib.hid hI.bel1
      clear hal hI hql hxs hnq
      have HFIN : Hid (∀ (q : List Int) (X' : World) (v' : Value), quo1 ext (c : Int) = q → Below w.heap.size w X' → Below W1.heap.size W1 X' → X'.ownsRow W1.heap.size 5 1 v' (nq + q.length) (xs ++ q.map (Value.int .u8)) → RqS w W1 s ext (k + 1) v' X') := Lib.hid (fun q X' v' hq hX hX1 ho => ⟨by have := HN.out; omega, hX, hX1, by
        rw [HTN.out, hq, List.length_append, List.map_append, ← HXS.out, ← HNQ.out]
        exact ho⟩)
      by_cases h10 : c = 10
      · have HQ1 : Hid (quo1 ext (c : Int) = [92, 110]) := Lib.hid (by unfold quo1; rw [if_pos (by omega)])
        have e10 : ((c : Int) == 10) = true := by simp; omega
        have HN1 : Hid ((wr.alloc (.cells #[.int .u8 92, .int .u8 110] 5)).heap[wr.heap.size]? = some (.cells #[.int .u8 92, .int .u8 110] 5 (0, 0))) := Lib.hid (alloc_last wr _)
        go_wp2_with (at_builtin; refine wpList_append_own _ rfl _ _ 22 rfl W1.heap.size 5 i0 (.int .u8 0) 1 1 Tryz.underlying22 HI.out HZ0.out HZ1.out HZ2.out rfl (by decide) _ (nq) xs rfl (HO.out.alloc _) ⟨wr.heap.size, 0, none⟩ 2 2 [.int .u8 92, .int .u8 110] rfl rfl ?c1 ?c2 ?c3 ?c4 ?c5 ?_)
        case c1 => (intro j u hj; rw [addz]; rw [Lib.cell_of_heap HN1.out]; simpa using hj)
        case c2 => (intro u hu; simp at hu; first | (subst hu; rfl) | (rcases hu with rfl | rfl <;> rfl))
        case c3 => (unfold maxLen; omega)
        case c4 => omega
        case c5 => (simp; omega)
        intro v' w4 hown' hgr _
        have HB4 : Hid (Below w.heap.size w w4) := Lib.hid ((HBR.out.alloc HBR.out.size _).grown hgr (by have := HBR.out.size; simp; omega) (fun j hj => by have := (own_ltB HO.out hj).1; omega))
        have HC4 : Hid (Below W1.heap.size W1 w4) := Lib.hid ((HBR1.out.alloc HBR1.out.size _).grown hgr (by have := HBR1.out.size; simp; omega) (fun j hj => (own_ltB HO.out hj).1))
        have HN : Hid (RqS w W1 s _ (k + 1) v' w4) := Lib.hid (HFIN.out _ w4 v' HQ1.out HB4.out HC4.out hown')
        clear hown' hgr
        go_wp2_with fail
        go_roundg (n - (k + 1))
        case measure => omega
        case rel => exact ⟨k + 1, rfl, by simp, HN.out⟩
      · have e10 : ((c : Int) == 10) = false := by simp; omega
        have hmq := mayQ_in (c : Int) ext
        have HB9 := HBH.out c
        have HM9 := HMH.out c
        cases hb1 : inB (c : Int) (bys qBase) with
        | true =>
          rw [hb1] at hmq HB9
          have HQ1 : Hid (quo1 ext (c : Int) = [92, (c : Int)]) := Lib.hid (by unfold quo1; rw [if_neg (by omega), if_pos (by rw [hmq]; rfl)])
          clear hmq hb1 HM9
          go_wp2_with fail
          refine (HB9 _).out.mono ?_
          rintro x w1 ⟨rfl, rfl⟩
          clear HB9
          have HN1 : Hid ((wr.alloc (.cells #[.int .u8 92] 5)).heap[wr.heap.size]? = some (.cells #[.int .u8 92] 5 (0, 0))) := Lib.hid (alloc_last wr _)
          go_wp2_with (at_builtin; refine wpList_append_own _ rfl _ _ 22 rfl W1.heap.size 5 i0 (.int .u8 0) 1 1 Tryz.underlying22 HI.out HZ0.out HZ1.out HZ2.out rfl (by decide) _ (nq) xs rfl (HO.out.alloc _) ⟨wr.heap.size, 0, none⟩ 1 1 [.int .u8 92] rfl rfl ?c1 ?c2 ?c3 ?c4 ?c5 ?_)
          case c1 => (intro j u hj; rw [addz]; rw [Lib.cell_of_heap HN1.out]; simpa using hj)
          case c2 => (intro u hu; simp at hu; first | (subst hu; rfl) | (rcases hu with rfl | rfl <;> rfl))
          case c3 => (unfold maxLen; omega)
          case c4 => omega
          case c5 => (simp; omega)
          intro v' w4 hown' hgr _
          have HB4 : Hid (Below w.heap.size w w4) := Lib.hid ((HBR.out.alloc HBR.out.size _).grown hgr (by have := HBR.out.size; simp; omega) (fun j hj => by have := (own_ltB HO.out hj).1; omega))
          have HC4 : Hid (Below W1.heap.size W1 w4) := Lib.hid ((HBR1.out.alloc HBR1.out.size _).grown hgr (by have := HBR1.out.size; simp; omega) (fun j hj => (own_ltB HO.out hj).1))
          have HO4 := Lib.hid hown'
          obtain ⟨a4, cap4, hv4⟩ := own_shapeT hown'
          subst hv4
          have hw4 := HC4.out.size
          clear hown' hgr
          have HN1 : Hid ((w4.alloc (.cells #[.int .u8 (c : Int)] 5)).heap[w4.heap.size]? = some (.cells #[.int .u8 (c : Int)] 5 (0, 0))) := Lib.hid (alloc_last w4 _)
          go_wp2_with (at_builtin; refine wpList_append_own _ rfl _ _ 22 rfl W1.heap.size 5 i0 (.int .u8 0) 1 1 Tryz.underlying22 HI.out HZ0.out HZ1.out HZ2.out rfl (by decide) _ (nq + 1) (xs ++ [.int .u8 92]) rfl (HO4.out.alloc _) ⟨w4.heap.size, 0, none⟩ 1 1 [.int .u8 (c : Int)] rfl rfl ?c1 ?c2 ?c3 ?c4 ?c5 ?_)
          case c1 => (intro j u hj; rw [addz]; rw [Lib.cell_of_heap HN1.out]; simpa using hj)
          case c2 => (intro u hu; simp at hu; first | (subst hu; rfl) | (rcases hu with rfl | rfl <;> rfl))
          case c3 => (unfold maxLen; omega)
          case c4 => omega
          case c5 => (simp; omega)
          intro v'b w4b hown' hgr _
          have HB4b : Hid (Below w.heap.size w w4b) := Lib.hid ((HB4.out.alloc HB4.out.size _).grown hgr (by have := HB4.out.size; simp; omega) (fun j hj => by have := (own_ltB HO4.out hj).1; omega))
          have HC4b : Hid (Below W1.heap.size W1 w4b) := Lib.hid ((HC4.out.alloc HC4.out.size _).grown hgr (by have := HC4.out.size; simp; omega) (fun j hj => (own_ltB HO4.out hj).1))
          have HN : Hid (RqS w W1 s _ (k + 1) v'b w4b) := Lib.hid (HFIN.out _ w4b v'b HQ1.out HB4b.out HC4b.out hown')
          clear hown' hgr
          go_wp2_with fail
          go_roundg (n - (k + 1))
          case measure => omega
          case rel => exact ⟨k + 1, rfl, by simp, HN.out⟩
        | false =>
          rw [hb1] at hmq HB9
          cases ext with
          | false =>
            have HQ1 : Hid (quo1 false (c : Int) = [(c : Int)]) := Lib.hid (by unfold quo1; rw [if_neg (by omega), if_neg (by rw [hmq]; simp)])
            clear hmq hb1 HM9
            go_wp2_with fail
            refine (HB9 _).out.mono ?_
            rintro x w1 ⟨rfl, rfl⟩
            clear HB9
            have HN1 : Hid ((wr.alloc (.cells #[.int .u8 (c : Int)] 5)).heap[wr.heap.size]? = some (.cells #[.int .u8 (c : Int)] 5 (0, 0))) := Lib.hid (alloc_last wr _)
            go_wp2_with (at_builtin; refine wpList_append_own _ rfl _ _ 22 rfl W1.heap.size 5 i0 (.int .u8 0) 1 1 Tryz.underlying22 HI.out HZ0.out HZ1.out HZ2.out rfl (by decide) _ (nq) xs rfl (HO.out.alloc _) ⟨wr.heap.size, 0, none⟩ 1 1 [.int .u8 (c : Int)] rfl rfl ?c1 ?c2 ?c3 ?c4 ?c5 ?_)
            case c1 => (intro j u hj; rw [addz]; rw [Lib.cell_of_heap HN1.out]; simpa using hj)
            case c2 => (intro u hu; simp at hu; first | (subst hu; rfl) | (rcases hu with rfl | rfl <;> rfl))
            case c3 => (unfold maxLen; omega)
            case c4 => omega
            case c5 => (simp; omega)
            intro v' w4 hown' hgr _
            have HB4 : Hid (Below w.heap.size w w4) := Lib.hid ((HBR.out.alloc HBR.out.size _).grown hgr (by have := HBR.out.size; simp; omega) (fun j hj => by have := (own_ltB HO.out hj).1; omega))
            have HC4 : Hid (Below W1.heap.size W1 w4) := Lib.hid ((HBR1.out.alloc HBR1.out.size _).grown hgr (by have := HBR1.out.size; simp; omega) (fun j hj => (own_ltB HO.out hj).1))
            have HN : Hid (RqS w W1 s _ (k + 1) v' w4) := Lib.hid (HFIN.out _ w4 v' HQ1.out HB4.out HC4.out hown')
            clear hown' hgr
            go_wp2_with fail
            go_roundg (n - (k + 1))
            case measure => omega
            case rel => exact ⟨k + 1, rfl, by simp, HN.out⟩
          | true =>
            cases hb2 : inB (c : Int) (bys qMore) with
            | true =>
              rw [hb2] at hmq HM9
              have HQ1 : Hid (quo1 true (c : Int) = [92, (c : Int)]) := Lib.hid (by unfold quo1; rw [if_neg (by omega), if_pos (by rw [hmq]; rfl)])
              clear hmq hb1 hb2
              go_wp2_with fail
              refine (HB9 _).out.mono ?_
              rintro x w1 ⟨rfl, rfl⟩
              go_wp2_with fail
              refine (HM9 _).out.mono ?_
              rintro x w1 ⟨rfl, rfl⟩
              clear HB9 HM9
              have HN1 : Hid ((wr.alloc (.cells #[.int .u8 92] 5)).heap[wr.heap.size]? = some (.cells #[.int .u8 92] 5 (0, 0))) := Lib.hid (alloc_last wr _)
              go_wp2_with (at_builtin; refine wpList_append_own _ rfl _ _ 22 rfl W1.heap.size 5 i0 (.int .u8 0) 1 1 Tryz.underlying22 HI.out HZ0.out HZ1.out HZ2.out rfl (by decide) _ (nq) xs rfl (HO.out.alloc _) ⟨wr.heap.size, 0, none⟩ 1 1 [.int .u8 92] rfl rfl ?c1 ?c2 ?c3 ?c4 ?c5 ?_)
              case c1 => (intro j u hj; rw [addz]; rw [Lib.cell_of_heap HN1.out]; simpa using hj)
              case c2 => (intro u hu; simp at hu; first | (subst hu; rfl) | (rcases hu with rfl | rfl <;> rfl))
              case c3 => (unfold maxLen; omega)
              case c4 => omega
              case c5 => (simp; omega)
              intro v' w4 hown' hgr _
              have HB4 : Hid (Below w.heap.size w w4) := Lib.hid ((HBR.out.alloc HBR.out.size _).grown hgr (by have := HBR.out.size; simp; omega) (fun j hj => by have := (own_ltB HO.out hj).1; omega))
              have HC4 : Hid (Below W1.heap.size W1 w4) := Lib.hid ((HBR1.out.alloc HBR1.out.size _).grown hgr (by have := HBR1.out.size; simp; omega) (fun j hj => (own_ltB HO.out hj).1))
              have HO4 := Lib.hid hown'
              obtain ⟨a4, cap4, hv4⟩ := own_shapeT hown'
              subst hv4
              have hw4 := HC4.out.size
              clear hown' hgr
              have HN1 : Hid ((w4.alloc (.cells #[.int .u8 (c : Int)] 5)).heap[w4.heap.size]? = some (.cells #[.int .u8 (c : Int)] 5 (0, 0))) := Lib.hid (alloc_last w4 _)
              go_wp2_with (at_builtin; refine wpList_append_own _ rfl _ _ 22 rfl W1.heap.size 5 i0 (.int .u8 0) 1 1 Tryz.underlying22 HI.out HZ0.out HZ1.out HZ2.out rfl (by decide) _ (nq + 1) (xs ++ [.int .u8 92]) rfl (HO4.out.alloc _) ⟨w4.heap.size, 0, none⟩ 1 1 [.int .u8 (c : Int)] rfl rfl ?c1 ?c2 ?c3 ?c4 ?c5 ?_)
              case c1 => (intro j u hj; rw [addz]; rw [Lib.cell_of_heap HN1.out]; simpa using hj)
              case c2 => (intro u hu; simp at hu; first | (subst hu; rfl) | (rcases hu with rfl | rfl <;> rfl))
              case c3 => (unfold maxLen; omega)
              case c4 => omega
              case c5 => (simp; omega)
              intro v'b w4b hown' hgr _
              have HB4b : Hid (Below w.heap.size w w4b) := Lib.hid ((HB4.out.alloc HB4.out.size _).grown hgr (by have := HB4.out.size; simp; omega) (fun j hj => by have := (own_ltB HO4.out hj).1; omega))
              have HC4b : Hid (Below W1.heap.size W1 w4b) := Lib.hid ((HC4.out.alloc HC4.out.size _).grown hgr (by have := HC4.out.size; simp; omega) (fun j hj => (own_ltB HO4.out hj).1))
              have HN : Hid (RqS w W1 s _ (k + 1) v'b w4b) := Lib.hid (HFIN.out _ w4b v'b HQ1.out HB4b.out HC4b.out hown')
              clear hown' hgr
              go_wp2_with fail
              go_roundg (n - (k + 1))
              case measure => omega
              case rel => exact ⟨k + 1, rfl, by simp, HN.out⟩
            | false =>
              rw [hb2] at hmq HM9
              have HQ1 : Hid (quo1 true (c : Int) = [(c : Int)]) := Lib.hid (by unfold quo1; rw [if_neg (by omega), if_neg (by rw [hmq]; simp)])
              clear hmq hb1 hb2
              go_wp2_with fail
              refine (HB9 _).out.mono ?_
              rintro x w1 ⟨rfl, rfl⟩
              go_wp2_with fail
              refine (HM9 _).out.mono ?_
              rintro x w1 ⟨rfl, rfl⟩
              clear HB9 HM9
              have HN1 : Hid ((wr.alloc (.cells #[.int .u8 (c : Int)] 5)).heap[wr.heap.size]? = some (.cells #[.int .u8 (c : Int)] 5 (0, 0))) := Lib.hid (alloc_last wr _)
              go_wp2_with (at_builtin; refine wpList_append_own _ rfl _ _ 22 rfl W1.heap.size 5 i0 (.int .u8 0) 1 1 Tryz.underlying22 HI.out HZ0.out HZ1.out HZ2.out rfl (by decide) _ (nq) xs rfl (HO.out.alloc _) ⟨wr.heap.size, 0, none⟩ 1 1 [.int .u8 (c : Int)] rfl rfl ?c1 ?c2 ?c3 ?c4 ?c5 ?_)
              case c1 => (intro j u hj; rw [addz]; rw [Lib.cell_of_heap HN1.out]; simpa using hj)
              case c2 => (intro u hu; simp at hu; first | (subst hu; rfl) | (rcases hu with rfl | rfl <;> rfl))
              case c3 => (unfold maxLen; omega)
              case c4 => omega
              case c5 => (simp; omega)
              intro v' w4 hown' hgr _
              have HB4 : Hid (Below w.heap.size w w4) := Lib.hid ((HBR.out.alloc HBR.out.size _).grown hgr (by have := HBR.out.size; simp; omega) (fun j hj => by have := (own_ltB HO.out hj).1; omega))
              have HC4 : Hid (Below W1.heap.size W1 w4) := Lib.hid ((HBR1.out.alloc HBR1.out.size _).grown hgr (by have := HBR1.out.size; simp; omega) (fun j hj => (own_ltB HO.out hj).1))
              have HN : Hid (RqS w W1 s _ (k + 1) v' w4) := Lib.hid (HFIN.out _ w4 v' HQ1.out HB4.out HC4.out hown')
              clear hown' hgr
              go_wp2_with fail
              go_roundg (n - (k + 1))
              case measure => omega
              case rel => exact ⟨k + 1, rfl, by simp, HN.out⟩
    · have hke : k = n := by omega
      have HQE : Hid (quoR ext ((bys s).take k) = quoR ext (bys s)) := Lib.hid (by rw [List.take_of_length_le (by rw [bys_length, ← HN.out]; omega)])
      have hlen2 : (quoR ext ((bys s).take k)).length ≤ 9223372036854775807 := by omega
      have HSL2 : Hid (Sl wr (.slice a0 (quoR ext ((bys s).take k)).length cap0) (quoR ext ((bys s).take k))) := Lib.hid (slOwnedM HQ.out.own (by rw [HQE.out]; exact quoR_byt (bys_byt s) ext) hlen2)
      have hcv2 := conv_string HSL2.out
      have hnk : ¬ (k : Int) < (n : Int) := by omega
      clear hke hal hI hql hlen2
      go_wp2
      go_ret
      exact ⟨by rw [← HQE.out]; rfl, HQ.out.bel⟩
end Go.Proofs.YtlkcopjjeknbkaaGreatDoor
