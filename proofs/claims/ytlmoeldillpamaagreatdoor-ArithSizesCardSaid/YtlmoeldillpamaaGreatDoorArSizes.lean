/- The walk of the statement on sizes and parentheses. -/
import Derived.Test.YtlmoeldillpamaaGreatDoorArUse
import Derived.Test.YtlmoeldillpamaaGreatDoorArParT
import Derived.Test.YtlmoeldillpamaaGreatDoorScOpen
import Derived.Test.YtlmoeldillpamaaGreatDoorRows
import Derived.Test.YtlmoeldillpamaaGreatDoorArSz
import Derived.LoopTactic
namespace Go.Proofs.YtlmoeldillpamaaGreatDoor
open Go.RowKit Go.Extern.Stop Go.Stop Go.Extern

set_option maxRecDepth 100000 in
set_option maxHeartbeats 4000000 in
theorem sizes_bad (oa : Option Addr) (n0 cap : Nat) (l : List Int) (c p : Nat) (s : Nat → Addr) (w : World) (hp : parseP l (5 * l.length + 4) = some (.bad c p)) (hs : Sl w (.slice oa n0 cap) l) (he : Snt w s) (hT : TP w) (hn : n0 = l.length) :
    Calls Tryz.prog 5 #[.slice oa n0 cap] w fun e w' => e = .returned (.bool true) ∧ Below w.heap.size w w' := by
  have HP := Lib.hid (parse_any _ l _ _ s w hp hs he.er)
  have hlen := hs.2.1
  have hpos := parseP_pos hp
  have hcd := parseP_code hp
  rw [← hn] at hlen hpos
  have HE := Lib.hid he
  have HT := Lib.hid hT
  have hnl := run_eql_iface_nil_left (P := Tryz.prog)
  clear hp hs he hT hn
  go_enter Tryz.func5, Tryz.ntmps5
  go_wp2_with fail
  refine HP.out.mono ?_
  rintro e w1 ⟨⟨v, rfl, herr⟩, hb⟩
  have HB := Lib.hid hb
  have HR := Lib.hid herr
  clear hb herr
  have HTe : Hid (Calls Tryz.prog 14 #[.iface 90 v] w1 fun e w' => e = .returned (.agg #[.int .i64 c, .int .i64 p, .int .i64 1]) ∧ Below w1.heap.size w1 w') := Lib.hid (tell_err s c p _ w1 (HE.out.below HB.out) HR.out (by omega) (by omega))
  go_wp2_with fail
  refine HTe.out.mono ?_
  rintro e w2 ⟨rfl, hb2⟩
  have HB2 : Hid (Below w.heap.size w w2) := Lib.hid (HB.out.trans (hb2.mono HB.out.size))
  clear hb2
  have HA : Hid (∀ W, Below w.heap.size w W → Calls Tryz.prog 15 #[] W fun e w' => e = .returned (.bool true) ∧ Below W.heap.size W w') := Lib.hid (fun W hW => arAwake_any s W (HE.out.er.below hW) (HT.out.below hW))
  go_wp2_with fail
  refine (HA.out _ (HB2.out.alloc HB2.out.size _)).mono ?_
  rintro e w3 ⟨rfl, hb3⟩
  go_wp2_with fail
  go_ret
  exact ⟨rfl, (HB2.out.alloc HB2.out.size _).trans (hb3.mono (by have := HB2.out.size; simp; omega))⟩

theorem bys_mk (xs : List UInt8) : bys ⟨xs.toArray⟩ = xs.map fun c => (c.toNat : Int) := rfl
/-- One byte more: what the counts become. -/
theorem cnt_step (xs : List UInt8) (k : Nat) (h : k < xs.length) : ∃ x : Int, (bys ⟨xs.toArray⟩).getD k 0 = x ∧
    ((x = 40 ∧ (xs.take (k + 1)).count 40 = (xs.take k).count 40 + 1 ∧ (xs.take (k + 1)).count 41 = (xs.take k).count 41) ∨
     (x = 41 ∧ (xs.take (k + 1)).count 40 = (xs.take k).count 40 ∧ (xs.take (k + 1)).count 41 = (xs.take k).count 41 + 1) ∨
     (x ≠ 40 ∧ x ≠ 41 ∧ (xs.take (k + 1)).count 40 = (xs.take k).count 40 ∧ (xs.take (k + 1)).count 41 = (xs.take k).count 41)) := by
  refine ⟨((xs[k]).toNat : Int), ?_, ?_⟩
  · rw [bys_mk, List.getD, List.getElem?_map, List.getElem?_eq_getElem h]
    rfl
  · rw [List.take_succ_eq_append_getElem h, List.count_append, List.count_append]
    generalize xs[k] = c
    by_cases h1 : c = 40
    · subst h1
      exact Or.inl ⟨rfl, rfl, rfl⟩
    by_cases h2 : c = 41
    · subst h2
      exact Or.inr (Or.inl ⟨rfl, rfl, rfl⟩)
    · refine Or.inr (Or.inr ⟨fun e => h1 ?_, fun e => h2 ?_, ?_, ?_⟩)
      · have : c.toNat = (40 : UInt8).toNat := by have z : (40 : UInt8).toNat = 40 := rfl; omega
        exact UInt8.toNat_inj.1 this
      · have : c.toNat = (41 : UInt8).toNat := by have z : (41 : UInt8).toNat = 41 := rfl; omega
        exact UInt8.toNat_inj.1 this
      · rw [List.count_singleton, if_neg (by simpa using h1), Nat.add_zero]
      · rw [List.count_singleton, if_neg (by simpa using h2), Nat.add_zero]

set_option maxRecDepth 100000 in
set_option maxHeartbeats 8000000 in
theorem sizes_ok (oa : Option Addr) (n0 cap : Nat) (l : List Int) (ex : Tr) (t : Tk) (s : Nat → Addr) (w : World) (hp : parseP l (5 * l.length + 4) = some (.ok ex t)) (hs : Sl w (.slice oa n0 cap) l) (he : Snt w s) (hT : TP w) (hn : n0 = l.length) :
    Calls Tryz.prog 5 #[.slice oa n0 cap] w fun e w' => e = .returned (.bool true) ∧ Below w.heap.size w w' := by
  have HP := Lib.hid (parse_ok _ l _ _ _ s w hp hs he)
  have hlen := hs.2.1
  obtain ⟨hz1, hz2⟩ := parseP_size hp
  have HBal := Lib.hid (parseP_bal hp)
  have HTx := Lib.hid (parseP_len hp)
  rw [← hn] at hlen hz2
  have HA : Hid (∀ W, Below w.heap.size w W → Calls Tryz.prog 15 #[] W fun e w' => e = .returned (.bool true) ∧ Below W.heap.size W w') := Lib.hid (fun W hW => arAwake_any s W (he.er.below hW) (hT.below hW))
  have HSz : Hid (∀ E W, ExAt W E ex → Calls Tryz.prog 17 #[.pointer (some ⟨E, 0, none⟩)] W fun x w' => x = .returned (.int .i64 (sizeT ex)) ∧ Below W.heap.size W w') := Lib.hid (fun E W h => size_of l _ ex t E W hp h)
  have HTt : Hid (∀ E W, ExAt W E ex → Below w.heap.size w W → Calls Tryz.prog 16 #[.pointer (some ⟨E, 0, none⟩)] W fun x w' => x = .returned (.string ⟨(txt ex).toArray⟩) ∧ Below W.heap.size W w') := Lib.hid (fun E W h hW => text_of l _ ex t E W hp h (hT.below hW))
  clear hp hs he hT hn
  generalize sizeT ex = sz at *
  go_enter Tryz.func5, Tryz.ntmps5
  go_wp2_with fail
  refine HP.out.mono ?_
  rintro e w1 ⟨⟨E, rfl, hex⟩, hb⟩
  have HB := Lib.hid hb
  have HX := Lib.hid hex
  clear hb hex
  go_wp2_with fail
  refine (HSz.out E w1 HX.out).mono ?_
  rintro e w2 ⟨rfl, hb2⟩
  have HB2 : Hid (Below w.heap.size w w2) := Lib.hid (HB.out.trans (hb2.mono HB.out.size))
  have HX2 := Lib.hid (HX.out.below hb2)
  clear hb2
  go_wp2_with fail
  refine (HSz.out E w2 HX2.out).mono ?_
  rintro e w3 ⟨rfl, hb3⟩
  have HB3 : Hid (Below w.heap.size w w3) := Lib.hid (HB2.out.trans (hb3.mono HB2.out.size))
  have HX3 := Lib.hid (HX2.out.below hb3)
  clear hb3
  go_wp2_with fail
  refine (HTt.out E w3 HX3.out HB3.out).mono ?_
  rintro e w4 ⟨rfl, hb4⟩
  have HB4 : Hid (Below w.heap.size w w4) := Lib.hid (HB3.out.trans (hb4.mono HB3.out.size))
  clear hb4
  generalize txt ex = xs at *
  have hsx : (ByteArray.mk xs.toArray).size = xs.length := by simp [ByteArray.size]
  have hsl := HTx.out
  obtain ⟨cp, w5, hconv, hsl5, hb5⟩ := conv_sl w4 ⟨xs.toArray⟩ (by rw [hsx]; omega)
  have HB5 : Hid (Below w.heap.size w w5) := Lib.hid (HB4.out.trans (hb5.mono HB4.out.size))
  have HR : Hid (Row w5 w4.heap.size 0 (bys ⟨xs.toArray⟩)) := by
    obtain ⟨_, _, ⟨h0, _⟩ | ⟨b, o, c, hv, _, _, hr⟩⟩ := hsl5
    · refine Lib.hid (fun i hi => ?_)
      rw [h0] at hi
      simp at hi
    · simp only [Value.slice.injEq, Option.some.injEq, Addr.mk.injEq] at hv
      obtain ⟨⟨rfl, rfl, _⟩, _, _⟩ := hv
      exact Lib.hid hr
  rw [hsx] at hconv
  clear hsl5 hb5
  go_wp2_with fail
  clear hconv
  obtain ⟨m, hm⟩ : ∃ m, m = xs.length := ⟨_, rfl⟩
  rw [← hm] at hsl ⊢
  have HM := Lib.hid hm
  clear hm hsx
  go_loop [6, 7, 59] (fun o s i => ∃ k : Nat, k ≤ m ∧ i = .int .i64 k ∧ o = .int .i64 ((xs.take k).count 40 : Nat) ∧ s = .int .i64 ((xs.take k).count 41 : Nat)) (fun _ _ i => m - (intOf i).toNat)
  case atStart => exact ⟨0, Nat.zero_le _, rfl, rfl, rfl⟩
  case round =>
    obtain ⟨k, hk, rfl, rfl, rfl⟩ := hrel
    have hle := HBal.out.2 k
    have hc1 : (xs.take k).count 40 ≤ k := Nat.le_trans List.count_le_length (List.length_take_le _ _)
    by_cases hlt : k < m
    · obtain ⟨x, hx, hcase⟩ := cnt_step xs k (by rw [← HM.out]; exact hlt)
      have hcell := HR.out k (by rw [bys_length, ByteArray.size]; simpa [← HM.out] using hlt)
      rw [hx, Nat.zero_add] at hcell
      have hle2 := HBal.out.2 (k + 1)
      clear hx
      generalize (xs.take k).count 40 = a at *
      generalize (xs.take k).count 41 = b at *
      generalize hA : (xs.take (k + 1)).count 40 = a' at *
      generalize hB' : (xs.take (k + 1)).count 41 = b' at *
      have HA' := Lib.hid hA
      have HB' := Lib.hid hB'
      clear hA hB'
      rcases hcase with ⟨rfl, rfl, rfl⟩ | ⟨rfl, rfl, rfl⟩ | ⟨hx1, hx2, rfl, rfl⟩
      all_goals
        go_wp2_with fail
        go_round
        case rel => exact ⟨k + 1, by omega, by go_num, by first | (rw [HA'.out]; done) | (rw [HA'.out]; go_num), by first | (rw [HB'.out]; done) | (rw [HB'.out]; go_num)⟩
        case measure => simp [intOf]; omega
    · obtain rfl : k = m := by omega
      have hee : (xs.take k).count 40 = (xs.take k).count 41 := by rw [HM.out, List.take_length]; exact HBal.out.1
      generalize (xs.take k).count 40 = a at *
      generalize (xs.take k).count 41 = b at *
      subst hee
      go_wp2_with fail
      refine (HA.out _ HB5.out).mono ?_
      rintro e w6 ⟨rfl, hb6⟩
      go_wp2_with fail
      go_ret
      exact ⟨rfl, HB5.out.trans (hb6.mono HB5.out.size)⟩

set_option maxRecDepth 100000 in
theorem arithSizes_open {H : Type} {enc : TypeId × Value → H} {d0 : DataW H} {p0 : List MemPlace} {q : Prop} (W : World) (base : Nat) (v0 : Value)
    (h0 : DataW.Trod enc Tryz.prog W 0 (fun _ => true) true 22 v0 d0 p0)
    (k0 : Value.okWide Tryz.prog W .any base 22 v0) (_ : q) (hL : laidMetH Tryz.prog Rows.arithSizesRow.laid W) :
    Calls Tryz.prog 5 #[v0] W fun e W' => e = .returned (.bool true) ∧ Below W.heap.size W W' := by
  obtain ⟨l, hs⟩ := sl_of k0 h0
  obtain ⟨s, he, hT⟩ := art_of_laid ⟨("math/bits.deBruijn32tab", Rows.laid_math_bits_deBruijn32tab), ("math/bits.deBruijn64tab", Rows.laid_math_bits_deBruijn64tab), by kernel_rfl⟩ (by kernel_rfl) hL
  obtain ⟨a, cap, rfl⟩ := sl_parts hs
  obtain ⟨r, hr⟩ := parseP_some l
  cases r with
  | ok ex t => exact sizes_ok a _ cap l ex t s W hr hs he hT rfl
  | bad c p => exact sizes_bad a _ cap l c p s W hr hs he hT rfl
end Go.Proofs.YtlmoeldillpamaaGreatDoor
