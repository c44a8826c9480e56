/- The walk of the statement on parentheses and white about an expression. -/
import Derived.Test.YtlmoeldillpamaaGreatDoorArUse
import Derived.Test.YtlmoeldillpamaaGreatDoorArInT
import Derived.Test.YtlmoeldillpamaaGreatDoorScOpen
import Derived.Test.YtlmoeldillpamaaGreatDoorRows
namespace Go.Proofs.YtlmoeldillpamaaGreatDoor
open Go.RowKit Go.Extern.Stop Go.Stop Go.Extern

theorem field_code (c p q : Int) (w : World) : (Instr.field 32 (.agg #[.int .i64 c, .int .i64 p, .int .i64 q]) 0).run Tryz.prog w = .ok (.int .i64 c) w := by kernel_rfl
theorem ofBys_app (a b : List Int) : ofBys (a ++ b) = ofBys a ++ ofBys b := by
  unfold ofBys
  apply ByteArray.ext
  simp [ByteArray.data_append]
theorem wrapN_text (j : Nat) (l : List Int) : (⟨#[32, 40, 10]⟩ ++ ofBys (wrapN j l) ++ ⟨#[9, 41, 32]⟩ : ByteArray) = ofBys (wrapN (j + 1) l) := by
  show _ = ofBys (wrapL (wrapN j l))
  unfold wrapL
  rw [← List.append_assoc, ofBys_app, ofBys_app]
  rfl
theorem byt_app {a b : List Int} (ha : Byt a) (hb : Byt b) : Byt (a ++ b) := fun i => by
  by_cases h : i < a.length
  · rw [getD_app_lt _ _ _ h]; exact ha i
  · have : (a ++ b).getD i 0 = b.getD (i - a.length) 0 := by
      simp only [List.getD]
      rw [List.getElem?_append_right (by omega)]
    rw [this]
    exact hb _
theorem byt_lit (l : List Int) (h : (l.all fun c => decide (0 ≤ c ∧ c ≤ 255)) = true) : Byt l := fun i => by
  by_cases hi : i < l.length
  · rw [List.getD, List.getElem?_eq_getElem hi]
    have := List.all_eq_true.1 h _ (List.getElem_mem hi)
    simpa using this
  · rw [List.getD, List.getElem?_eq_none (by omega)]
    decide
theorem wrapN_byt {l : List Int} (h : Byt l) : ∀ j, Byt (wrapN j l)
  | 0 => h
  | j + 1 => by
    show Byt (wrapL (wrapN j l))
    unfold wrapL
    exact byt_app (byt_lit _ (by decide)) (byt_app (wrapN_byt h j) (byt_lit _ (by decide)))
theorem wrapN_size (j : Nat) (l : List Int) : (ofBys (wrapN j l)).size = l.length + 6 * j := by rw [ofBys_size, wrapN_len]

set_option maxRecDepth 100000 in
set_option maxHeartbeats 2000000 in
theorem brack_long (oa : Option Addr) (cap : Nat) (l : List Int) (n : Int) (s : Nat → Addr) (w : World) (hs : Sl w (.slice oa l.length cap) l) (he : Snt w s) (hT : TP w) (hl : 900 < l.length) :
    Calls Tryz.prog 4 #[.slice oa l.length cap, .int .i64 n] w fun e w' => e = .returned (.bool true) ∧ Below w.heap.size w w' := by
  have HA := Lib.hid (arAwake_any s w he.er hT)
  have hlen := hs.2.1
  generalize l.length = m at *
  clear hs he hT
  go_enter Tryz.func4, Tryz.ntmps4
  go_wp2_with fail
  refine HA.out.mono ?_
  rintro e w1 ⟨rfl, hb⟩
  go_wp2_with fail
  go_ret
  exact ⟨rfl, hb⟩

set_option maxRecDepth 100000 in
set_option maxHeartbeats 4000000 in
theorem brack_ok (oa : Option Addr) (cap : Nat) (l : List Int) (n : Int) (ex : Tr) (t : Tk) (s : Nat → Addr) (w : World) (hs : Sl w (.slice oa l.length cap) l) (he : Snt w s) (hT : TP w) (hl : l.length ≤ 900) (hp : parseP l (5 * l.length + 4) = some (.ok ex t)) :
    Calls Tryz.prog 4 #[.slice oa l.length cap, .int .i64 n] w fun e w' => e = .returned (.bool true) ∧ Below w.heap.size w w' := by
  have HP := Lib.hid (parse_ok _ l _ _ _ s w hp hs he)
  have HS := Lib.hid hs
  have HE := Lib.hid he
  have HT := Lib.hid hT
  have HPP := Lib.hid hp
  have hm1 : -19 ≤ n.tmod 20 := by have := Int.tmod_lt_of_pos (-n) (show (0 : Int) < 20 by omega); rw [Int.neg_tmod] at this; omega
  have hm2 : n.tmod 20 ≤ 19 := by have := Int.tmod_lt_of_pos n (show (0 : Int) < 20 by omega); omega
  clear hs he hT hp
  obtain ⟨len, hlen⟩ : ∃ len, len = l.length := ⟨_, rfl⟩
  rw [← hlen] at hl HS HP ⊢
  have HL := Lib.hid hlen
  clear hlen
  go_enter Tryz.func4, Tryz.ntmps4
  go_wp2_with fail
  refine HP.out.mono ?_
  rintro e w1 ⟨⟨E, rfl, hex⟩, hb⟩
  have HX := Lib.hid hex
  have HB := Lib.hid hb
  clear hex hb
  have hconv := conv_string (HS.out.below HB.out)
  go_wp2_with fail
  clear hconv
  obtain ⟨k, hk⟩ : ∃ k : Nat, (k : Int) = n.tmod 20 % 20 + 1 := ⟨(n.tmod 20 % 20 + 1).toNat, by omega⟩
  have hk1 : k ≤ 20 := by omega
  rw [← hk]
  clear hk hm1 hm2
  have e0 : ofBys l = ofBys (wrapN 0 l) := rfl
  rw [e0]
  clear e0
  go_loop [7, 27] (fun tx i => ∃ j : Nat, j ≤ k ∧ i = .int .i64 j ∧ tx = .string (ofBys (wrapN j l))) (fun _ i => k - (intOf i).toNat)
  case atStart => exact ⟨0, Nat.zero_le _, rfl, rfl⟩
  case round =>
    obtain ⟨j, hj, rfl, rfl⟩ := hrel
    have hsz : (ofBys (wrapN j l)).size = len + 6 * j := by rw [wrapN_size, HL.out]
    by_cases hlt : j < k
    · have HW := Lib.hid (wrapN_text j l)
      have hs1 : (ofBys (wrapN j l)).size ≤ 1020 := by omega
      generalize ofBys (wrapN j l) = tx at *
      clear hsz
      go_wp2_with fail
      go_round
      case rel => exact ⟨j + 1, by omega, by go_num, by rw [← HW.out]⟩
      case measure => simp [intOf]; omega
    · obtain rfl : j = k := by omega
      have hbyt := wrapN_byt HS.out.1 j
      have hlenj := wrapN_len l j
      rw [← HL.out] at hlenj
      obtain ⟨cp, w2, hconv, hsl, hb2⟩ := conv_sl w1 (ofBys (wrapN j l)) (by omega)
      rw [bys_ofBys hbyt] at hsl
      have HB2 : Hid (Below w.heap.size w w2) := Lib.hid (HB.out.trans (hb2.mono HB.out.size))
      have HX2 := Lib.hid (HX.out.below hb2)
      have HSL := Lib.hid hsl
      clear hb2 hsl hbyt
      by_cases hbig : 1024 < len + 6 * j
      · have HP2 := Lib.hid (parse_bad _ (wrapN j l) 0 2 0 s w2 (by unfold parseP; rw [if_pos (by omega)]) HSL.out (HE.out.below HB2.out))
        have HA : Hid (∀ W, Below w.heap.size w W → Calls Tryz.prog 15 #[] W fun e w' => e = .returned (.bool true) ∧ Below W.heap.size W w') := Lib.hid (fun W hW => arAwake_any s W (HE.out.er.below hW) (HT.out.below hW))
        generalize ofBys (wrapN j l) = tx at *
        have hs1 : 1024 < tx.size := by omega
        have hs2 : tx.size ≤ 1020 + 1020 := by omega
        clear hsz hlenj hbig HPP
        have d1 : decide ((1024 : Int) < (tx.size : Int)) = true := decide_eq_true (by omega)
        go_wp2_with fail
        refine HP2.out.mono ?_
        rintro e w3 ⟨⟨pv, rfl, herr⟩, hb3⟩
        have HB3 : Hid (Below w.heap.size w w3) := Lib.hid (HB2.out.trans (hb3.mono HB2.out.size))
        have HTe : Hid (Calls Tryz.prog 14 #[.iface 90 pv] w3 fun e w' => e = .returned (.agg #[.int .i64 2, .int .i64 (0 : Nat), .int .i64 1]) ∧ Below w3.heap.size w3 w') := Lib.hid (tell_err s 2 0 _ w3 (HE.out.below HB3.out) herr (by omega) (by omega))
        clear herr hb3 hconv
        go_wp2_with fail
        refine HTe.out.mono ?_
        rintro e w4 ⟨rfl, hb4⟩
        have HB4 : Hid (Below w.heap.size w w4) := Lib.hid (HB3.out.trans (hb4.mono HB3.out.size))
        clear hb4 HTe
        have hfc := field_code
        go_wp2_with fail
        refine (HA.out w4 HB4.out).mono ?_
        rintro e w5 ⟨rfl, hb5⟩
        go_wp2_with fail
        go_ret
        exact ⟨rfl, HB4.out.trans (hb5.mono HB4.out.size)⟩
      · obtain ⟨n', e', t', hp', htx, hsize⟩ := parseP_wrap HPP.out j (by omega)
        have HP2 := Lib.hid (parse_ok _ (wrapN j l) n' e' t' s w2 hp' HSL.out (HE.out.below HB2.out))
        have HA : Hid (∀ W, Below w.heap.size w W → Calls Tryz.prog 15 #[] W fun e w' => e = .returned (.bool true) ∧ Below W.heap.size W w') := Lib.hid (fun W hW => arAwake_any s W (HE.out.er.below hW) (HT.out.below hW))
        have HSz : Hid (∀ E W, ExAt W E ex → Calls Tryz.prog 17 #[.pointer (some ⟨E, 0, none⟩)] W fun x w' => x = .returned (.int .i64 (sizeT ex)) ∧ Below W.heap.size W w') := Lib.hid (fun E W h => size_of l _ ex t E W HPP.out h)
        have HSz' : Hid (∀ E W, ExAt W E e' → Calls Tryz.prog 17 #[.pointer (some ⟨E, 0, none⟩)] W fun x w' => x = .returned (.int .i64 (sizeT ex)) ∧ Below W.heap.size W w') := Lib.hid (fun E W h => by rw [← hsize]; exact size_of _ _ e' t' E W hp' h)
        have HTt : Hid (∀ E W, ExAt W E ex → Below w.heap.size w W → Calls Tryz.prog 16 #[.pointer (some ⟨E, 0, none⟩)] W fun x w' => x = .returned (.string ⟨(txt ex).toArray⟩) ∧ Below W.heap.size W w') := Lib.hid (fun E W h hW => text_of l _ ex t E W HPP.out h (HT.out.below hW))
        have HTt' : Hid (∀ E W, ExAt W E e' → Below w.heap.size w W → Calls Tryz.prog 16 #[.pointer (some ⟨E, 0, none⟩)] W fun x w' => x = .returned (.string ⟨(txt ex).toArray⟩) ∧ Below W.heap.size W w') := Lib.hid (fun E W h hW => by rw [← htx]; exact text_of _ _ e' t' E W hp' h (HT.out.below hW))
        have HXL := Lib.hid (parseP_len HPP.out)
        clear hp' htx hsize HPP
        generalize sizeT ex = sz at *
        generalize (⟨(txt ex).toArray⟩ : ByteArray) = xs at *
        generalize ofBys (wrapN j l) = tx at *
        have hs1 : ¬ 1024 < tx.size := by omega
        clear hsz hlenj hbig
        have d1 : decide ((1024 : Int) < (tx.size : Int)) = false := decide_eq_false (by omega)
        go_wp2_with fail
        refine HP2.out.mono ?_
        rintro e w3 ⟨⟨E', rfl, hex'⟩, hb3⟩
        have HB3 : Hid (Below w.heap.size w w3) := Lib.hid (HB2.out.trans (hb3.mono HB2.out.size))
        have HX3 := Lib.hid (HX2.out.below hb3)
        have HY3 := Lib.hid hex'
        clear hex' hb3 hconv
        go_wp2_with fail
        refine (HTt'.out E' w3 HY3.out HB3.out).mono ?_
        rintro e w4 ⟨rfl, hb4⟩
        have HB4 : Hid (Below w.heap.size w w4) := Lib.hid (HB3.out.trans (hb4.mono HB3.out.size))
        have HX4 := Lib.hid (HX3.out.below hb4)
        have HY4 := Lib.hid (HY3.out.below hb4)
        clear hb4
        go_wp2_with fail
        refine (HTt.out E w4 HX4.out HB4.out).mono ?_
        rintro e w5 ⟨rfl, hb5⟩
        have HB5 : Hid (Below w.heap.size w w5) := Lib.hid (HB4.out.trans (hb5.mono HB4.out.size))
        have HX5 := Lib.hid (HX4.out.below hb5)
        have HY5 := Lib.hid (HY4.out.below hb5)
        clear hb5
        go_wp2_with fail
        refine (HSz'.out E' w5 HY5.out).mono ?_
        rintro e w6 ⟨rfl, hb6⟩
        have HB6 : Hid (Below w.heap.size w w6) := Lib.hid (HB5.out.trans (hb6.mono HB5.out.size))
        have HX6 := Lib.hid (HX5.out.below hb6)
        clear hb6
        go_wp2_with fail
        refine (HSz.out E w6 HX6.out).mono ?_
        rintro e w7 ⟨rfl, hb7⟩
        have HB7 : Hid (Below w.heap.size w w7) := Lib.hid (HB6.out.trans (hb7.mono HB6.out.size))
        clear hb7
        go_wp2_with fail
        refine (HA.out w7 HB7.out).mono ?_
        rintro e w8 ⟨rfl, hb8⟩
        go_wp2_with fail
        go_ret
        exact ⟨rfl, HB7.out.trans (hb8.mono HB7.out.size)⟩

set_option maxRecDepth 100000 in
set_option maxHeartbeats 4000000 in
theorem brack_bad (oa : Option Addr) (cap : Nat) (l : List Int) (n : Int) (c p : Nat) (s : Nat → Addr) (w : World) (hs : Sl w (.slice oa l.length cap) l) (he : Snt w s) (hT : TP w) (hl : l.length ≤ 900) (hp : parseP l (5 * l.length + 4) = some (.bad c p)) :
    Calls Tryz.prog 4 #[.slice oa l.length cap, .int .i64 n] w fun e w' => e = .returned (.bool true) ∧ Below w.heap.size w w' := by
  have HP := Lib.hid (parse_bad _ l _ _ _ s w hp hs he)
  have HS := Lib.hid hs
  have HE := Lib.hid he
  have HT := Lib.hid hT
  have hm1 : -19 ≤ n.tmod 20 := by have := Int.tmod_lt_of_pos (-n) (show (0 : Int) < 20 by omega); rw [Int.neg_tmod] at this; omega
  have hm2 : n.tmod 20 ≤ 19 := by have := Int.tmod_lt_of_pos n (show (0 : Int) < 20 by omega); omega
  clear hs he hT hp
  obtain ⟨len, hlen⟩ : ∃ len, len = l.length := ⟨_, rfl⟩
  rw [← hlen] at hl HS HP ⊢
  have HL := Lib.hid hlen
  clear hlen
  go_enter Tryz.func4, Tryz.ntmps4
  go_wp2_with fail
  refine HP.out.mono ?_
  rintro e w1 ⟨⟨pv0, rfl, _⟩, hb⟩
  have HB := Lib.hid hb
  clear hb
  have hconv := conv_string (HS.out.below HB.out)
  go_wp2_with fail
  clear hconv
  obtain ⟨k, hk⟩ : ∃ k : Nat, (k : Int) = n.tmod 20 % 20 + 1 := ⟨(n.tmod 20 % 20 + 1).toNat, by omega⟩
  have hk1 : k ≤ 20 := by omega
  rw [← hk]
  clear hk hm1 hm2
  have e0 : ofBys l = ofBys (wrapN 0 l) := rfl
  rw [e0]
  clear e0
  go_loop [7, 27] (fun tx i => ∃ j : Nat, j ≤ k ∧ i = .int .i64 j ∧ tx = .string (ofBys (wrapN j l))) (fun _ i => k - (intOf i).toNat)
  case atStart => exact ⟨0, Nat.zero_le _, rfl, rfl⟩
  case round =>
    obtain ⟨j, hj, rfl, rfl⟩ := hrel
    have hsz : (ofBys (wrapN j l)).size = len + 6 * j := by rw [wrapN_size, HL.out]
    by_cases hlt : j < k
    · have HW := Lib.hid (wrapN_text j l)
      have hs1 : (ofBys (wrapN j l)).size ≤ 1020 := by omega
      generalize ofBys (wrapN j l) = tx at *
      clear hsz
      go_wp2_with fail
      go_round
      case rel => exact ⟨j + 1, by omega, by go_num, by rw [← HW.out]⟩
      case measure => simp [intOf]; omega
    · obtain rfl : j = k := by omega
      have hbyt := wrapN_byt HS.out.1 j
      have hlenj := wrapN_len l j
      rw [← HL.out] at hlenj
      obtain ⟨cp, w2, hconv, hsl, hb2⟩ := conv_sl w1 (ofBys (wrapN j l)) (by omega)
      rw [bys_ofBys hbyt] at hsl
      have HB2 : Hid (Below w.heap.size w w2) := Lib.hid (HB.out.trans (hb2.mono HB.out.size))
      have HSL := Lib.hid hsl
      clear hb2 hsl hbyt
      have HA : Hid (∀ W, Below w.heap.size w W → Calls Tryz.prog 15 #[] W fun e w' => e = .returned (.bool true) ∧ Below W.heap.size W w') := Lib.hid (fun W hW => arAwake_any s W (HE.out.er.below hW) (HT.out.below hW))
      by_cases hbig : 1024 < len + 6 * j
      · have HP2 := Lib.hid (parse_bad _ (wrapN j l) 0 2 0 s w2 (by unfold parseP; rw [if_pos (by omega)]) HSL.out (HE.out.below HB2.out))
        generalize ofBys (wrapN j l) = tx at *
        have hs1 : 1024 < tx.size := by omega
        have hs2 : tx.size ≤ 1020 + 1020 := by omega
        clear hsz hlenj hbig
        have d1 : decide ((1024 : Int) < (tx.size : Int)) = true := decide_eq_true (by omega)
        go_wp2_with fail
        refine HP2.out.mono ?_
        rintro e w3 ⟨⟨pv, rfl, herr⟩, hb3⟩
        have HB3 : Hid (Below w.heap.size w w3) := Lib.hid (HB2.out.trans (hb3.mono HB2.out.size))
        have HTe : Hid (Calls Tryz.prog 14 #[.iface 90 pv] w3 fun e w' => e = .returned (.agg #[.int .i64 2, .int .i64 (0 : Nat), .int .i64 1]) ∧ Below w3.heap.size w3 w') := Lib.hid (tell_err s 2 0 _ w3 (HE.out.below HB3.out) herr (by omega) (by omega))
        clear herr hb3 hconv
        go_wp2_with fail
        refine HTe.out.mono ?_
        rintro e w4 ⟨rfl, hb4⟩
        have HB4 : Hid (Below w.heap.size w w4) := Lib.hid (HB3.out.trans (hb4.mono HB3.out.size))
        clear hb4 HTe
        have hfc := field_code
        go_wp2_with fail
        refine (HA.out w4 HB4.out).mono ?_
        rintro e w5 ⟨rfl, hb5⟩
        go_wp2_with fail
        go_ret
        exact ⟨rfl, HB4.out.trans (hb5.mono HB4.out.size)⟩
      · obtain ⟨r, hr⟩ := parseP_some (wrapN j l)
        have hs1 : ¬ 1024 < (ofBys (wrapN j l)).size := by omega
        have HS2 : Hid (∃ x y, Calls Tryz.prog 12 #[.slice (some ⟨w1.heap.size, 0, none⟩) (ofBys (wrapN j l)).size cp] w2 fun e w' => (∃ a b, e = .returned (.tuple #[a, b]) ∧ x = () ∧ y = ()) ∧ Below w2.heap.size w2 w') := Lib.hid ⟨(), (), by
          cases r with
          | ok e' t' =>
            refine (parse_ok _ (wrapN j l) _ e' t' s w2 hr HSL.out (HE.out.below HB2.out)).mono ?_
            rintro x w' ⟨⟨E', h, _⟩, hb⟩
            exact ⟨⟨_, _, h, rfl, rfl⟩, hb⟩
          | bad c' p' =>
            refine (parse_bad _ (wrapN j l) _ c' p' s w2 hr HSL.out (HE.out.below HB2.out)).mono ?_
            rintro x w' ⟨⟨pv, h, _⟩, hb⟩
            exact ⟨⟨_, _, h, rfl, rfl⟩, hb⟩⟩
        clear hr
        generalize ofBys (wrapN j l) = tx at *
        clear hsz hlenj hbig
        have d1 : decide ((1024 : Int) < (tx.size : Int)) = false := decide_eq_false (by omega)
        obtain ⟨_, _, HP2⟩ := HS2.out
        have HP3 := Lib.hid HP2
        clear HP2 HS2
        go_wp2_with fail
        refine HP3.out.mono ?_
        rintro e w3 ⟨⟨a, b, rfl, _, _⟩, hb3⟩
        have HB3 : Hid (Below w.heap.size w w3) := Lib.hid (HB2.out.trans (hb3.mono HB2.out.size))
        clear hb3 hconv
        go_wp2_with fail
        refine (HA.out w3 HB3.out).mono ?_
        rintro e w4 ⟨rfl, hb4⟩
        go_wp2_with fail
        go_ret
        exact ⟨rfl, HB3.out.trans (hb4.mono HB3.out.size)⟩

set_option maxRecDepth 100000 in
theorem arithBrackets_open {H : Type} {enc : TypeId × Value → H} {d0 d1 : DataW H} {p0 p1 : List MemPlace} {q : Prop} (W : World) (base : Nat) (v0 v1 : Value)
    (h0 : DataW.Trod enc Tryz.prog W 0 (fun _ => true) true 22 v0 d0 p0) (h1 : DataW.Trod enc Tryz.prog W 0 (fun _ => true) true 3 v1 d1 p1)
    (k0 : Value.okWide Tryz.prog W .any base 22 v0) (k1 : Value.okWide Tryz.prog W .any base 3 v1) (_ : q) (hL : laidMetH Tryz.prog Rows.arithBracketsRow.laid W) :
    Calls Tryz.prog 4 #[v0, v1] W fun e W' => e = .returned (.bool true) ∧ Below W.heap.size W W' := by
  obtain ⟨l, hs⟩ := sl_of k0 h0
  obtain ⟨n, rfl, rfl, rfl, wx⟩ := ChangeShapes.open_int Tryz.underlying3 k1 h1
  obtain ⟨s, he, hT⟩ := art_of_laid ⟨("math/bits.deBruijn32tab", Rows.laid_math_bits_deBruijn32tab), ("math/bits.deBruijn64tab", Rows.laid_math_bits_deBruijn64tab), by kernel_rfl⟩ (by kernel_rfl) hL
  obtain ⟨a, cap, rfl⟩ := sl_parts hs
  by_cases hl : 900 < l.length
  · exact brack_long a cap l n s W hs he hT hl
  · obtain ⟨r, hr⟩ := parseP_some l
    cases r with
    | ok ex t => exact brack_ok a cap l n ex t s W hs he hT (by omega) hr
    | bad c p => exact brack_bad a cap l n c p s W hs he hT (by omega) hr
end Go.Proofs.YtlmoeldillpamaaGreatDoor
