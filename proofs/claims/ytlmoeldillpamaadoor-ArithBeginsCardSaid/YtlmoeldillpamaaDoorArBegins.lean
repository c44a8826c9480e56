/- The walk of the statement on errors and what stands behind them. -/
import Derived.Test.YtlmoeldillpamaaDoorArSl
import Derived.Test.YtlmoeldillpamaaDoorArCut
import Derived.Test.YtlmoeldillpamaaDoorScOpen
import Derived.Test.YtlmoeldillpamaaDoorRows
namespace Go.Proofs.YtlmoeldillpamaaDoor
open Go.RowKit Go.Extern.Stop Go.Stop Go.Extern

set_option maxRecDepth 100000 in
set_option maxHeartbeats 4000000 in
theorem begins_ok (v v1 : Value) (l : List Int) (ex : Tr) (t : Tk) (s : Nat → Addr) (w : World) (hp : parseP l (5 * l.length + 4) = some (.ok ex t)) (hs : Sl w v l) (he : Snt w s) (hT : TP w) :
    Calls Tryd.prog 3 #[v, v1] w fun e w' => e = .returned (.bool true) ∧ Below w.heap.size w w' := by
  have HP := Lib.hid (parse_ok _ l _ _ _ s w hp hs he)
  have HA : Hid (∀ W, Below w.heap.size w W → Calls Tryd.prog 8 #[] W fun e w' => e = .returned (.bool true) ∧ Below W.heap.size W w') := Lib.hid (fun W hW => arAwake_any s W (he.er.below hW) (hT.below hW))
  clear hp hs he hT
  go_enter Tryd.func3, Tryd.ntmps3
  go_wp2_with fail
  refine HP.out.mono ?_
  rintro e w1 ⟨⟨E, rfl, _⟩, hb⟩
  have HB := Lib.hid hb
  clear hb
  go_wp2_with fail
  refine (tell_nil w1).mono ?_
  rintro e w2 ⟨rfl, hb2⟩
  have HB2 : Hid (Below w.heap.size w w2) := Lib.hid (HB.out.trans (hb2.mono HB.out.size))
  clear hb2
  go_wp2_with fail
  refine (HA.out _ (HB2.out.alloc HB2.out.size _)).mono ?_
  rintro e w3 ⟨rfl, hb3⟩
  go_wp2_with fail
  go_ret
  exact ⟨rfl, (HB2.out.alloc HB2.out.size _).trans (hb3.mono (by have := HB2.out.size; simp; omega))⟩

set_option maxRecDepth 100000 in
set_option maxHeartbeats 4000000 in
theorem begins_other (oa oa1 : Option Addr) (cap cap1 : Nat) (l m : List Int) (c p : Nat) (s : Nat → Addr) (w : World) (hp : parseP l (5 * l.length + 4) = some (.bad c p)) (hs : Sl w (.slice oa l.length cap) l) (hs1 : Sl w (.slice oa1 m.length cap1) m) (he : Snt w s) (hT : TP w)
    (h : c ≠ 3 ∨ l.length ≤ p ∨ 500 < l.length ∨ 500 < m.length) :
    Calls Tryd.prog 3 #[.slice oa l.length cap, .slice oa1 m.length cap1] w fun e w' => e = .returned (.bool true) ∧ Below w.heap.size w w' := by
  have HP := Lib.hid (parse_bad _ l _ _ _ s w hp hs he)
  have hlen := hs.2.1
  have hlen1 := hs1.2.1
  have hcd := parseP_code hp
  have hpos := parseP_pos hp
  have HE := Lib.hid he
  have HA : Hid (∀ W, Below w.heap.size w W → Calls Tryd.prog 8 #[] W fun e w' => e = .returned (.bool true) ∧ Below W.heap.size W w') := Lib.hid (fun W hW => arAwake_any s W (he.er.below hW) (hT.below hW))
  clear hp hs hs1 he hT
  generalize l.length = n0 at *
  generalize m.length = n1 at *
  have hcase : (c = 2 ∨ c = 6) ∨ (c = 3 ∧ n0 ≤ p) ∨ (c = 3 ∧ p < n0 ∧ 500 < n0) ∨ (c = 3 ∧ p < n0 ∧ n0 ≤ 500 ∧ 500 < n1) := by omega
  clear h
  go_enter Tryd.func3, Tryd.ntmps3
  go_wp2_with fail
  refine HP.out.mono ?_
  rintro e w1 ⟨⟨pv, rfl, herr⟩, hb⟩
  have HB := Lib.hid hb
  have HTe : Hid (Calls Tryd.prog 7 #[.iface 58 pv] w1 fun e w' => e = .returned (.agg #[.int .i64 c, .int .i64 p, .int .i64 1]) ∧ Below w1.heap.size w1 w') := Lib.hid (tell_err s c p _ w1 (HE.out.below HB.out) herr (by omega) (by omega))
  clear hb herr
  go_wp2_with fail
  refine HTe.out.mono ?_
  rintro e w2 ⟨rfl, hb2⟩
  have HB2 : Hid (Below w.heap.size w w2) := Lib.hid (HB.out.trans (hb2.mono HB.out.size))
  clear hb2 hcd HTe
  rcases hcase with (rfl | rfl) | ⟨rfl, h1⟩ | ⟨rfl, h1, h2⟩ | ⟨rfl, h1, h2, h3⟩
  all_goals
    go_wp2_with fail
    all_goals first
      | (exfalso; omega)
      | (refine (HA.out _ (HB2.out.alloc HB2.out.size _)).mono ?_
         rintro e w3 ⟨rfl, hb3⟩
         go_wp2_with fail
         go_ret
         exact ⟨rfl, (HB2.out.alloc HB2.out.size _).trans (hb3.mono (by have := HB2.out.size; simp; omega))⟩)

/-- What the statement's last region keeps: the old memory and the fault's three cells. -/
def Kp3 (w : World) (F : Nat) (x y z : Value) (w' : World) : Prop :=
  Below w.heap.size w w' ∧ w'.cell? ⟨F, 0, none⟩ = some x ∧ w'.cell? ⟨F, 1, none⟩ = some y ∧ w'.cell? ⟨F, 2, none⟩ = some z ∧ F < w'.heap.size
theorem Kp3.next {w : World} {F : Nat} {x y z : Value} {w1 w2 : World} (h : Kp3 w F x y z w1) (hb : Below w1.heap.size w1 w2) : Kp3 w F x y z w2 := by
  obtain ⟨h0, h1, h2, h3, h4⟩ := h
  exact ⟨Below.step h0 hb, by rw [hb.cell h4]; exact h1, by rw [hb.cell h4]; exact h2, by rw [hb.cell h4]; exact h3, Nat.lt_of_lt_of_le h4 hb.size⟩
theorem Kp3.drew {w : World} {F : Nat} {x y z : Value} {w1 : World} (h : Kp3 w F x y z w1) : Kp3 w F x y z w1.drew := h.next (Below.refl _ _).drew
theorem byt_appB {a b : List Int} (ha : Byt a) (hb : Byt b) : Byt (a ++ b) := fun i => by
  by_cases h : i < a.length
  · rw [getD_app_lt _ _ _ h]; exact ha i
  · have : (a ++ b).getD i 0 = b.getD (i - a.length) 0 := by
      simp only [List.getD]
      rw [List.getElem?_append_right (by omega)]
    rw [this]
    exact hb _
theorem byt_one (x : Int) (h0 : 0 ≤ x) (h1 : x ≤ 255) : Byt [x] := fun i => by
  cases i with
  | zero => exact ⟨h0, h1⟩
  | succ i => simp

set_option maxRecDepth 100000 in
set_option maxHeartbeats 4000000 in
theorem begins_goes (a : Addr) (oa1 : Option Addr) (cap cap1 : Nat) (l m : List Int) (p : Nat) (s : Nat → Addr) (w : World) (hp : parseP l (5 * l.length + 4) = some (.bad 3 p)) (hs : Sl w (.slice (some a) l.length cap) l) (hs1 : Sl w (.slice oa1 m.length cap1) m) (he : Snt w s) (hT : TP w)
    (h1 : p < l.length) (h2 : l.length ≤ 500) (h3 : m.length ≤ 500) (hnil : oa1 = none → m.length = 0 ∧ cap1 = 0) :
    Calls Tryd.prog 3 #[.slice (some a) l.length cap, .slice oa1 m.length cap1] w fun e w' => e = .returned (.bool true) ∧ Below w.heap.size w w' := by
  have HP := Lib.hid (parse_bad _ l _ _ _ s w hp hs he)
  have hp2 := parseP_app (m := m) (Or.inl rfl : (32 : Int) = 32 ∨ (32 : Int) = 9) hp h1 (by simp; omega)
  have HP2 : Hid (∀ W v, Below w.heap.size w W → Sl W v (l ++ 32 :: m) → Calls Tryd.prog 6 #[v] W fun x w' => (∃ pv, x = .returned (.tuple #[.pointer none, .iface 58 pv]) ∧ ErrAt w' s 3 p (.iface 58 pv)) ∧ Below W.heap.size W w') := Lib.hid (fun W v hW hS => parse_bad v _ _ _ _ s W hp2 hS (he.below hW))
  have HS := Lib.hid hs
  have HS1 := Lib.hid hs1
  have HE := Lib.hid he
  have HA : Hid (∀ W, Below w.heap.size w W → Calls Tryd.prog 8 #[] W fun e w' => e = .returned (.bool true) ∧ Below W.heap.size W w') := Lib.hid (fun W hW => arAwake_any s W (he.er.below hW) (hT.below hW))
  clear hp hs hs1 he hT hp2
  obtain ⟨n0, hn0⟩ : ∃ n0, n0 = l.length := ⟨_, rfl⟩
  obtain ⟨n1, hn1⟩ : ∃ n1, n1 = m.length := ⟨_, rfl⟩
  rw [← hn0] at h1 h2 HS HP ⊢
  rw [← hn1] at h3 HS1 hnil ⊢
  have HN0 := Lib.hid hn0
  have HN1 := Lib.hid hn1
  have HNIL := Lib.hid hnil
  clear hn0 hn1 hnil
  obtain ⟨i0, hi, hz0, hz1, hz2⟩ := info_parts bd_byte
  go_enter Tryd.func3, Tryd.ntmps3
  go_wp2_with fail
  refine HP.out.mono ?_
  rintro e w1 ⟨⟨pv, rfl, herr⟩, hb⟩
  have HB := Lib.hid hb
  have HTe : Hid (Calls Tryd.prog 7 #[.iface 58 pv] w1 fun e w' => e = .returned (.agg #[.int .i64 3, .int .i64 p, .int .i64 1]) ∧ Below w1.heap.size w1 w') := Lib.hid (tell_err s 3 p _ w1 (HE.out.below HB.out) herr (by omega) (by omega))
  clear hb herr
  go_wp2_with fail
  refine HTe.out.mono ?_
  rintro e w2 ⟨rfl, hb2⟩
  have HB2 : Hid (Below w.heap.size w w2) := Lib.hid (HB.out.trans (hb2.mono HB.out.size))
  clear hb2 HTe
  have d1 : decide (n0 ≤ p) = false := decide_eq_false (by omega)
  have d2 : decide ((500 : Int) < n0) = false := decide_eq_false (by omega)
  have d3 : decide ((500 : Int) < n1) = false := decide_eq_false (by omega)
  go_upto_region 5 with (fail)
  clear d1 d2 d3
  obtain ⟨Wf, hWf⟩ : ∃ Wf : World, Wf = w2.alloc (.cells #[.int .i64 3, .int .i64 p, .int .i64 1] 29) := ⟨_, rfl⟩
  rw [← hWf]
  have HBf : Hid (Below w.heap.size w Wf) := Lib.hid (by rw [hWf]; exact HB2.out.alloc HB2.out.size _)
  have HF : Hid (Wf.heap[w2.heap.size]? = some (.cells #[.int .i64 3, .int .i64 p, .int .i64 1] 29)) := Lib.hid (by rw [hWf]; exact heap_alloc_last w2 _)
  clear hWf
  have HSf := Lib.hid (HS.out.below HBf.out)
  have HBa : Hid (Below Wf.heap.size Wf (Wf.alloc (.cells #[] 5))) := Lib.hid ((Below.refl _ _).alloc (Nat.le_refl _) _)
  have HO1 : Hid ((Wf.alloc (.cells #[] 5)).ownsRow Wf.heap.size 5 1 (.slice (some ⟨Wf.heap.size, 0, none⟩) 0 0) 0 []) := Lib.hid (World.ownsRow_made Wf #[] 0 (Nat.le_refl _) (by decide) rfl)
  have HNW := Lib.hid (news_of (HSf.out.below HBa.out))
  go_wp2_with (at_builtin; refine wpList_append_own _ rfl (.tmp 39) (.tmp 40) 22 rfl Wf.heap.size 5 i0 (.int .u8 0) 1 1 Tryd.underlying22 hi hz0 hz1 hz2 rfl (by decide) _ 0 [] rfl HO1.out a n0 cap (l.map (Value.int .u8)) rfl ?c0 HNW.out.2 (one_cellsA l) ?c3 ?c4 HBa.out.size ?_)
  case c0 => simpa using HNW.out.1
  case c3 => unfold maxLen; omega
  case c4 => omega
  intro v1 w3 hown3 hgrow _
  try simp only [List.nil_append, Nat.zero_add] at hown3
  have HB3 : Hid (Below Wf.heap.size Wf w3) := Lib.hid (below_app HBa.out HO1.out hgrow)
  have HO3 := Lib.hid hown3
  clear hown3 hgrow
  have HB3a : Hid (∀ o, Below Wf.heap.size Wf (w3.alloc o)) := Lib.hid (fun o => HB3.out.alloc HB3.out.size o)
  go_wp2_with (at_builtin; refine wpList_append_own _ rfl (.tmp 41) (.tmp 42) 22 rfl Wf.heap.size 5 i0 (.int .u8 0) 1 1 Tryd.underlying22 hi hz0 hz1 hz2 rfl (by decide) v1 n0 (l.map (Value.int .u8)) rfl (HO3.out.alloc _) ⟨w3.heap.size, 0, none⟩ 1 1 [.int .u8 32] rfl rfl ?d1 ?d2 ?d3 ?d4 (HB3a.out _).size ?_)
  case d1 =>
    intro j u hj
    cases j with
    | zero => simp at hj; subst hj; simp [Addr.add]
    | succ j => simp at hj
  case d2 => simp [Value.oneCell']
  case d3 => unfold maxLen; omega
  case d4 => omega
  intro v2 w4 hown4 hgrow4 _
  have e4 : l.map (Value.int .u8) ++ [.int .u8 32] = (l ++ [32]).map (Value.int .u8) := by simp
  rw [e4] at hown4
  have HB4 : Hid (Below Wf.heap.size Wf w4) := Lib.hid (below_app (HB3a.out _) (HO3.out.alloc _) hgrow4)
  have HO4 := Lib.hid hown4
  clear hown4 hgrow4 e4
  have HS4 := Lib.hid ((HS1.out.below HBf.out).below HB4.out)
  have key : ∀ v3 w5, w5.ownsRow Wf.heap.size 5 1 v3 (n0 + 1 + n1) ((l ++ [32]).map (Value.int .u8) ++ m.map (Value.int .u8)) → Below Wf.heap.size Wf w5 → Sl w5 v3 (l ++ 32 :: m) := fun v3 w5 hown hb => by
    rw [← List.map_append, List.append_assoc] at hown
    refine slOwned hown ?_ ?_
    · exact byt_appB HS.out.1 (byt_appB (a := [32]) (byt_one 32 (by decide) (by decide)) HS1.out.1)
    · have := HN0.out
      have := HN1.out
      simp
      omega
  have HKEY := Lib.hid key
  clear key
  cases oa1 with
  | none =>
    obtain ⟨hm0, rfl⟩ := HNIL.out rfl
    subst hm0
    have hm : m = [] := List.length_eq_zero_iff.1 HN1.out.symm
    go_wp2_with (at_builtin; refine wpList_append_own_none rfl (.tmp 43) (.tmp 44) 22 rfl Wf.heap.size 5 i0 1 Tryd.underlying22 hi v2 (n0 + 1) ((l ++ [32]).map (Value.int .u8)) rfl HO4.out rfl ?_)
    have HSL : Hid (Sl w4 v2 (l ++ 32 :: m)) := Lib.hid (HKEY.out v2 w4 (by have := HO4.out; rw [hm, List.map_nil, List.append_nil]; exact this) HB4.out)
    have HB5 := Lib.hid HB4.out
    clear hm
    refine (HP2.out w4 v2 (HBf.out.trans (HB5.out.mono HBf.out.size)) HSL.out).mono ?_
    rintro e w6 ⟨⟨pv6, rfl, herr6⟩, hb6⟩
    have HR6 := Lib.hid herr6
    have HB6 : Hid (Below w.heap.size w w6) := Lib.hid ((HBf.out.trans (HB5.out.mono HBf.out.size)).trans (hb6.mono (Nat.le_trans HBf.out.size HB5.out.size)))
    have HF6 : Hid (w6.heap[w2.heap.size]? = some (.cells #[.int .i64 3, .int .i64 p, .int .i64 1] 29)) := Lib.hid ((hb6.block _ (lt_of_heap ((HB5.out.block _ (lt_of_heap HF.out)).trans HF.out))).trans ((HB5.out.block _ (lt_of_heap HF.out)).trans HF.out))
    clear herr6 hb6
    have HT6 : Hid (∀ W, Below w6.heap.size w6 W → Calls Tryd.prog 7 #[.iface 58 pv6] W fun e w' => e = .returned (.agg #[.int .i64 3, .int .i64 p, .int .i64 1]) ∧ Below W.heap.size W w') := Lib.hid (fun W hW => tell_err s 3 p _ W ((HE.out.below HB6.out).below hW) (HR6.out.below hW) (by omega) (by omega))
    have hF6 := lt_of_heap HF6.out
    have HK : Hid (Kp3 w6 w2.heap.size (.int .i64 3) (.int .i64 p) (.int .i64 1) w6) := Lib.hid ⟨Below.refl _ _, by simp [World.cell?, HF6.out], by simp [World.cell?, HF6.out], by simp [World.cell?, HF6.out], hF6⟩
    go_wp2_with fail
    go_region_held3 (fun w' => Below w6.heap.size w6 w' ∧ w'.cell? ⟨w2.heap.size, 0, none⟩ = some (.int .i64 3) ∧ w'.cell? ⟨w2.heap.size, 1, none⟩ = some (.int .i64 p) ∧ w'.cell? ⟨w2.heap.size, 2, none⟩ = some (.int .i64 1) ∧ w2.heap.size < w'.heap.size) (first | exact HK.out.drew | exact Kp3.next (by assumption) (by assumption))
      (first
        | (go_at_call 7; refine (HT6.out _ ?_).mono ?_; exact And.left (by assumption); rintro e w' ⟨rfl, hbt⟩)
        | (go_at_call 8; refine (HA.out _ ?_).mono ?_; refine Below.trans HB6.out (Below.mono ?_ HB6.out.size); exact And.left (by assumption); rintro e w' ⟨rfl, hbt⟩))
    all_goals
      go_wp2
      go_ret
      refine ⟨rfl, Below.trans HB6.out (Below.mono ?_ HB6.out.size)⟩
      exact And.left (by assumption)
  | some a1 =>
    have HNW1 := Lib.hid (news_of HS4.out)
    go_wp2_with (at_builtin; refine wpList_append_own _ rfl (.tmp 43) (.tmp 44) 22 rfl Wf.heap.size 5 i0 (.int .u8 0) 1 1 Tryd.underlying22 hi hz0 hz1 hz2 rfl (by decide) v2 (n0 + 1) ((l ++ [32]).map (Value.int .u8)) rfl HO4.out a1 n1 cap1 (m.map (Value.int .u8)) rfl ?f0 HNW1.out.2 (one_cellsA m) ?f3 ?f4 HB4.out.size ?_)
    case f0 => simpa using HNW1.out.1
    case f3 => unfold maxLen; omega
    case f4 => omega
    intro v5 w5 hown5 hgrow5 _
    have HB5 : Hid (Below Wf.heap.size Wf w5) := Lib.hid (below_app HB4.out HO4.out hgrow5)
    have HSL : Hid (Sl w5 v5 (l ++ 32 :: m)) := Lib.hid (HKEY.out v5 w5 (by simpa using hown5) HB5.out)
    clear hown5 hgrow5
    go_wp2_with fail
    refine (HP2.out w5 v5 (HBf.out.trans (HB5.out.mono HBf.out.size)) HSL.out).mono ?_
    rintro e w6 ⟨⟨pv6, rfl, herr6⟩, hb6⟩
    have HR6 := Lib.hid herr6
    have HB6 : Hid (Below w.heap.size w w6) := Lib.hid ((HBf.out.trans (HB5.out.mono HBf.out.size)).trans (hb6.mono (Nat.le_trans HBf.out.size HB5.out.size)))
    have HF6 : Hid (w6.heap[w2.heap.size]? = some (.cells #[.int .i64 3, .int .i64 p, .int .i64 1] 29)) := Lib.hid ((hb6.block _ (lt_of_heap ((HB5.out.block _ (lt_of_heap HF.out)).trans HF.out))).trans ((HB5.out.block _ (lt_of_heap HF.out)).trans HF.out))
    clear herr6 hb6
    have HT6 : Hid (∀ W, Below w6.heap.size w6 W → Calls Tryd.prog 7 #[.iface 58 pv6] W fun e w' => e = .returned (.agg #[.int .i64 3, .int .i64 p, .int .i64 1]) ∧ Below W.heap.size W w') := Lib.hid (fun W hW => tell_err s 3 p _ W ((HE.out.below HB6.out).below hW) (HR6.out.below hW) (by omega) (by omega))
    have hF6 := lt_of_heap HF6.out
    have HK : Hid (Kp3 w6 w2.heap.size (.int .i64 3) (.int .i64 p) (.int .i64 1) w6) := Lib.hid ⟨Below.refl _ _, by simp [World.cell?, HF6.out], by simp [World.cell?, HF6.out], by simp [World.cell?, HF6.out], hF6⟩
    go_wp2_with fail
    go_region_held3 (fun w' => Below w6.heap.size w6 w' ∧ w'.cell? ⟨w2.heap.size, 0, none⟩ = some (.int .i64 3) ∧ w'.cell? ⟨w2.heap.size, 1, none⟩ = some (.int .i64 p) ∧ w'.cell? ⟨w2.heap.size, 2, none⟩ = some (.int .i64 1) ∧ w2.heap.size < w'.heap.size) (first | exact HK.out.drew | exact Kp3.next (by assumption) (by assumption))
      (first
        | (go_at_call 7; refine (HT6.out _ ?_).mono ?_; exact And.left (by assumption); rintro e w' ⟨rfl, hbt⟩)
        | (go_at_call 8; refine (HA.out _ ?_).mono ?_; refine Below.trans HB6.out (Below.mono ?_ HB6.out.size); exact And.left (by assumption); rintro e w' ⟨rfl, hbt⟩))
    all_goals
      go_wp2
      go_ret
      refine ⟨rfl, Below.trans HB6.out (Below.mono ?_ HB6.out.size)⟩
      exact And.left (by assumption)

set_option maxRecDepth 100000 in
/-- A nil slice that came in has no length and no capacity. -/
theorem sl_nil {H : Type} {enc : TypeId × Value → H} {W : World} {base : Nat} {v : Value} {d : DataW H} {ps : List MemPlace}
    (hk : Value.okWide Tryd.prog W .any base 22 v) (h : DataW.Trod enc Tryd.prog W 0 (fun _ => true) true 22 v d ps) (n cap : Nat) (e : v = .slice none n cap) : n = 0 ∧ cap = 0 := by
  subst e
  obtain ⟨fuel, hf⟩ := h
  rcases ChangeShapes.open_ints Tryd.underlying22 Tryd.underlying5 (by kernel_rfl) hf with ⟨hcs, _⟩ | ⟨a, len', cap', zs, hcs, _⟩
  · simp [Value.cells] at hcs
    exact hcs
  · simp [Value.cells] at hcs

set_option maxRecDepth 100000 in
theorem arithBegins_open {H : Type} {enc : TypeId × Value → H} {d0 d1 : DataW H} {p0 p1 : List MemPlace} {q : Prop} (W : World) (base : Nat) (v0 v1 : Value)
    (h0 : DataW.Trod enc Tryd.prog W 0 (fun _ => true) true 22 v0 d0 p0) (h1 : DataW.Trod enc Tryd.prog W 0 (fun _ => true) true 22 v1 d1 p1)
    (k0 : Value.okWide Tryd.prog W .any base 22 v0) (k1 : Value.okWide Tryd.prog W .any base 22 v1) (_ : q) (hL : laidMetH Tryd.prog Rows.arithBeginsRow.laid W) :
    Calls Tryd.prog 3 #[v0, v1] W fun e W' => e = .returned (.bool true) ∧ Below W.heap.size W W' := by
  obtain ⟨l, hs⟩ := sl_of k0 h0
  obtain ⟨m, hs1⟩ := sl_of k1 h1
  have hnil := sl_nil k1 h1
  obtain ⟨s, he, hT⟩ := art_of_laid ⟨("math/bits.deBruijn32tab", Rows.laid_math_bits_deBruijn32tab), ("math/bits.deBruijn64tab", Rows.laid_math_bits_deBruijn64tab), by kernel_rfl⟩ (by kernel_rfl) hL
  obtain ⟨r, hr⟩ := parseP_some l
  cases r with
  | ok ex t => exact begins_ok v0 v1 l ex t s W hr hs he hT
  | bad c p =>
    obtain ⟨oa, cap, rfl⟩ := sl_parts hs
    obtain ⟨oa1, cap1, rfl⟩ := sl_parts hs1
    by_cases hc : c ≠ 3 ∨ l.length ≤ p ∨ 500 < l.length ∨ 500 < m.length
    · exact begins_other oa oa1 cap cap1 l m c p s W hr hs hs1 he hT hc
    · obtain rfl : c = 3 := by omega
      cases oa with
      | none =>
        exfalso
        obtain ⟨_, _, ⟨h, _⟩ | ⟨b, o, c', h, _⟩⟩ := hs
        · rw [h] at hc
          simp at hc
        · cases h
      | some a => exact begins_goes a oa1 cap cap1 l m p s W hr hs hs1 he hT (by omega) (by omega) (by omega) (fun e => by subst e; exact hnil _ _ rfl)
end Go.Proofs.YtlmoeldillpamaaDoor
