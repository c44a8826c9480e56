/- The walks of awake and of the statement on errors from elsewhere. -/
import Derived.Test.YtmihmaajfcdofaaDoorRFaTell
import Derived.Deep.QuietTactic
import Derived.BigQuiet
import Derived.Deep.RegionWith
namespace Go.Proofs.YtmihmaajfcdofaaDoorR
open Go.RowKit Go.Extern.Stop Go.Stop Go.Extern

theorem Chn.wrapAt {w : World} {l : List (Bool × Int)} {v r : Value} (h : Chn w l v r) (n : Int) :
    Chn (w.alloc (.cells #[v, .int .i64 n] 46)) ((false, n) :: l) (.iface 42 (.pointer (some ⟨w.heap.size, 0, none⟩))) r :=
  ⟨w.heap.size, v, rfl, new_block _ _ (Below.refl _ _), h.alloc _⟩
theorem Chn.wrapIn {w : World} {l : List (Bool × Int)} {v r : Value} (h : Chn w l v r) (n : Int) :
    Chn (w.alloc (.cells #[v, .int .i64 n] 51)) ((true, n) :: l) (.iface 47 (.pointer (some ⟨w.heap.size, 0, none⟩))) r :=
  ⟨w.heap.size, v, rfl, new_block _ _ (Below.refl _ _), h.alloc _⟩

theorem Snt.bot {w : World} {s : Nat → Addr} (_ : Snt w s) (k : Nat) : Chn w [] (bot (s k)) (bot (s k)) := rfl

set_option maxHeartbeats 2000000 in
theorem awake_any (s : Nat → Addr) (w : World) (hs : Snt w s) :
    Calls Tryd.prog 10 #[] w fun e w' => e = .returned (.bool true) ∧ Below w.heap.size w w' := by
  have HO := Lib.hid (of_some s w hs 3 (by decide) (by decide))
  have hb : Below w.heap.size w (w.alloc (.cells #[bot (s 3), .int .i64 5] 46)) := (Below.refl _ _).alloc (Nat.le_refl _) _
  have HT := Lib.hid (tell_any _ _ _ s 3 _ (hs.below hb) ((hs.rt 3 (by decide) (by decide)).below hb) ((hs.bot 3).wrapAt 5))
  have HB := Lib.hid hb
  clear hs hb
  unfold bot at *
  simp only [firstOf] at HT
  go_enter Tryd.func10, Tryd.ntmps10
  go_wp2_with fail
  refine HO.out.mono ?_
  rintro e w' ⟨rfl, rfl⟩
  go_wp2_with fail
  refine (wrap_At _ _ _ _).mono ?_
  rintro e w' ⟨rfl, rfl⟩
  go_wp2_with fail
  refine HT.out.mono ?_
  rintro e w' ⟨rfl, hb⟩
  go_wp2
  go_ret
  exact ⟨rfl, Below.step HB.out hb⟩

/-- An error of errors.New's make in a new block is no sentinel. -/
theorem Snt.fresh {w : World} {s : Nat → Addr} (h : Snt w s) (x : ByteArray) : Rt (w.alloc (.cells #[.string x] 55)) s ⟨w.heap.size, 0, none⟩ 22 where
  blk := ⟨_, _, new_block _ _ (Below.refl _ _)⟩
  code k h1 h2 := ⟨fun e => by
    obtain ⟨cs, t, hb⟩ := h.blk k h1 h2
    have := lt_of_block hb
    rw [← e] at this
    simp at this, fun e => by omega⟩
  pos := by decide
  le := by decide

set_option maxRecDepth 100000 in
set_option maxHeartbeats 4000000 in
theorem elsewhere_any (pos lang : Int) (s : Nat → Addr) (w : World) (hs : Snt w s) :
    Calls Tryd.prog 6 #[.int .i64 pos, .int .i64 lang] w fun e w' => e = .returned (.bool true) ∧ Below w.heap.size w w' := by
  have HS := Lib.hid hs
  have HN : Hid (∀ x : ByteArray, Rt (w.alloc (.cells #[.string x] 55)) s ⟨w.heap.size, 0, none⟩ 22) := fun x => hs.fresh x
  clear hs
  go_enter Tryd.func6, Tryd.ntmps6
  go_wp2_with fail
  refine (new_any _ _).mono ?_
  rintro e w' ⟨rfl, rfl⟩
  have hb1 : Below w.heap.size w (w.alloc (.cells #[.string { data := #[101, 108, 115, 101, 119, 104, 101, 114, 101] }] 55)) := (Below.refl _ _).alloc (Nat.le_refl _) _
  have HB1 := Lib.hid hb1
  clear hb1
  go_wp2_with fail
  refine (tell_any [] _ ⟨w.heap.size, 0, none⟩ s 22 _ (HS.out.below HB1.out) (HN.out _) rfl).mono ?_
  rintro e w2 ⟨rfl, hb2⟩
  have HB2 := Lib.hid hb2
  clear hb2
  unfold bot
  go_wp2_with fail
  refine (wrap_At _ _ _ _).mono ?_
  rintro e w3 ⟨rfl, rfl⟩
  go_wp2_with fail
  refine (wrap_In _ _ _ _).mono ?_
  rintro e w3 ⟨rfl, rfl⟩
  have hb3 : Below w2.heap.size w2 ((w2.alloc (.cells #[bot ⟨w.heap.size, 0, none⟩, .int .i64 pos] 46)).alloc (.cells #[.iface 42 (.pointer (some ⟨w2.heap.size, 0, none⟩)), .int .i64 lang] 51)) := ((Below.refl _ _).alloc (Nat.le_refl _) _).alloc (by simp) _
  have hc3 : Chn ((w2.alloc (.cells #[bot ⟨w.heap.size, 0, none⟩, .int .i64 pos] 46)).alloc (.cells #[.iface 42 (.pointer (some ⟨w2.heap.size, 0, none⟩)), .int .i64 lang] 51)) [(true, lang), (false, pos)] (.iface 47 (.pointer (some ⟨w2.heap.size + 1, 0, none⟩))) (bot ⟨w.heap.size, 0, none⟩) := by
    have h1 : Chn w2 [] (bot ⟨w.heap.size, 0, none⟩) (bot ⟨w.heap.size, 0, none⟩) := rfl
    simpa using (h1.wrapAt pos).wrapIn lang
  have HT := Lib.hid (tell_any _ _ _ s 22 _ (HS.out.below (Below.step HB1.out (Below.step HB2.out hb3))) ((HN.out _).below (Below.step HB2.out hb3)) hc3)
  have HB3 := Lib.hid hb3
  clear hb3 hc3
  unfold bot at *
  simp only [firstOf] at HT
  go_wp2_with fail
  refine HT.out.mono ?_
  rintro e w4 ⟨rfl, hb4⟩
  have HB4 := Lib.hid hb4
  clear hb4
  go_wp2_with fail
  refine (awake_any s _ (HS.out.below (Below.step HB1.out (Below.step HB2.out (Below.step HB3.out HB4.out))))).mono ?_
  rintro e w5 ⟨rfl, hb5⟩
  go_wp2
  go_ret
  exact ⟨rfl, Below.step HB1.out (Below.step HB2.out (Below.step HB3.out (Below.step HB4.out hb5)))⟩
end Go.Proofs.YtmihmaajfcdofaaDoorR
