/- Contracts of Parse, Plain, Pieces. -/
import Derived.Test.YtoodpajbefffhaaDoorGlRd
import Derived.Laws.OwnMore
namespace Go.Proofs.YtoodpajbefffhaaDoor
open Go.RowKit

set_option maxHeartbeats 4000000 in
theorem esOf_long (e : Nat → Addr) (B : Nat) (w : World) (hs : Es w B e) :
    Calls Tryd.prog 35 #[.int .i64 2] w fun x w' => x = .returned (bot (e 2)) ∧ w' = w := by
  have hv := hs.var 2 (by omega) (by omega)
  unfold bot
  try simp only [Nat.reduceSub] at hv
  go_enter Tryd.func35, Tryd.ntmps35
  go_wp2
  go_ret
  exact ⟨rfl, rfl⟩

set_option maxRecDepth 100000 in
set_option maxHeartbeats 4000000 in
/-- Nothing to read. -/
theorem gread_none (a : Option Addr) (cap b : Nat) (w : World) :
    Calls Tryd.prog 36 #[.pointer (some ⟨b, 0, none⟩), .slice a 0 cap] w fun e w' => e = .returned (.tuple #[]) ∧ w' = w := by
  go_enter Tryd.func36, Tryd.ntmps36
  go_wp2
  go_step3
  go_wp2
  go_step3
  go_wp2
  refine wp_loop_rounds 1 ?_
  rw [rounds_succ]
  go_wp2
  rw [Exit.noGoto_normal]
  go_end0
  exact ⟨rfl, rfl⟩

set_option maxRecDepth 100000 in
set_option maxHeartbeats 4000000 in
theorem parse_long (e : Nat → Addr) (a : Option Addr) (n cap : Nat) (hn : 256 < n) (w : World) (he : Es w w.heap.size e) :
    Calls Tryd.prog 19 #[.slice a n cap] w fun x w' => ∃ v, x = .returned (.tuple #[.pointer none, v]) ∧ ErrS w' w.heap.size e 2 2 0 v ∧ Below w.heap.size w w' := by
  have HE := Lib.hid he
  have hnI : (256 : Int) < (n : Int) := by omega
  have HO := Lib.hid (esOf_long e w.heap.size w he)
  clear he
  go_enter Tryd.func19, Tryd.ntmps19
  go_wp2_with fail
  refine HO.out.mono ?_
  rintro x w1 ⟨rfl, rfl⟩
  unfold bot
  go_wp2_with fail
  refine (esWrap_At _ _ _ _).mono ?_
  rintro x w2 ⟨rfl, rfl⟩
  go_wp2_with fail
  refine (esWrap_In _ _ _ _).mono ?_
  rintro x w3 ⟨rfl, rfl⟩
  go_wp2
  go_ret2
  refine ⟨_, rfl, ⟨w1.heap.size + 1, w1.heap.size, by simp, by omega, by simp, Nat.le_refl _, by simp; omega, ?_, ?_⟩, ?_⟩
  · have := alloc_last (w1.alloc (.cells #[bot (e 2), .int .i64 0] 95)) (.cells #[.iface 93 (.pointer (some ⟨w1.heap.size, 0, none⟩)), .int .i64 2] 92)
    simpa [bot] using this
  · exact blk_alloc (alloc_last w1 _) _
  · exact ((Below.refl _ _).alloc (Nat.le_refl _) _).alloc (by simp) _

theorem Sl.shape {w : World} {v : Value} {l : List Int} (h : Sl w v l) : (l = [] ∧ ∃ a cap, v = .slice a 0 cap) ∨ ∃ b o cap, v = .slice (some ⟨b, o, none⟩) l.length cap ∧ l.length ≤ cap ∧ cap ≤ 9223372036854775807 ∧ Row w b o l := h.2.2

set_option maxRecDepth 100000 in
set_option maxHeartbeats 8000000 in
/-- A text that is short enough. -/
theorem parse_ok (cf : ByteArray → (Nat → Bool) × Bool) (hcf : ClassOk cf) (e : Nat → Addr) (v : Value) (l : List Int) (w : World) (he : Es w w.heap.size e) (hT : TZ w) (hs : Sl w v l) (hl : l.length ≤ 256) :
    Calls Tryd.prog 19 #[v] w fun x w' => ∃ b, x = .returned (.tuple #[.pointer (some ⟨b, 0, none⟩), .nilIface]) ∧ PatAt w.heap.size b (glP cf l) w' ∧ Below w.heap.size w w' := by
  have HP0 : Hid (PatAt w.heap.size w.heap.size [] (w.alloc (.cells #[.slice none 0 0, .slice none 0 0] 64))) :=
    Lib.hid ⟨Nat.le_refl _, _, _, alloc_last w _, World.ownsRow_nil _ _ _ _, World.ownsRow_nil _ _ _ _⟩
  have HB0 : Hid (Below w.heap.size w (w.alloc (.cells #[.slice none 0 0, .slice none 0 0] 64))) := Lib.hid ((Below.refl _ _).alloc (Nat.le_refl _) _)
  rcases hs.shape with ⟨rfl, a, cap, rfl⟩ | ⟨x, o, cap, rfl, hlc, hcm, hrow⟩
  · have HG : ∀ X, Hid (Calls Tryd.prog 36 #[.pointer (some ⟨w.heap.size, 0, none⟩), .slice a 0 cap] X fun e w' => e = .returned (.tuple #[]) ∧ w' = X) := fun X => Lib.hid (gread_none a cap w.heap.size X)
    clear hs he hT
    go_enter Tryd.func19, Tryd.ntmps19
    go_wp2_with fail
    refine (HG _).out.mono ?_
    rintro x w1 ⟨rfl, rfl⟩
    go_wp2
    go_ret2
    exact ⟨_, rfl, HP0.out, HB0.out⟩
  · have HG := Lib.hid (gread_any cf hcf e w x o cap l w.heap.size _ he hT hs (by omega) hlc hcm hrow HP0.out HB0.out)
    have hnI : ¬ (256 : Int) < (l.length : Int) := by omega
    clear hs he hT hrow HP0 HB0
    go_enter Tryd.func19, Tryd.ntmps19
    go_wp2_with fail
    refine HG.out.mono ?_
    rintro e' w1 ⟨rfl, hp1, hb1⟩
    have HP1 := Lib.hid hp1
    have HB1 := Lib.hid hb1
    clear hp1 hb1
    go_wp2
    go_ret2
    exact ⟨_, rfl, HP1.out, HB1.out⟩

end Go.Proofs.YtoodpajbefffhaaDoor
