import Derived.Test.YtnpkcllbpnmabaaGreatDoorKFa
import Derived.Test.YtnpkcllbpnmabaaGreatDoorKRdr
import Derived.Test.YtnpkcllbpnmabaaGreatDoorKLi
namespace Go.Proofs.YtnpkcllbpnmabaaGreatDoor
open Go.RowKit
structure Es (w : World) (B : Nat) (e : Nat → Addr) : Prop where
 var : ∀ k, 1 ≤ k → k ≤ 21 → w.cell? ⟨k - 1, 0, none⟩ = some (.iface 202 (.pointer (some (e k))))
 low : 21 < B
 big : B ≤ w.heap.size
theorem Es.below {w w' : World} {B : Nat} {e : Nat → Addr} (h : Es w B e) (hb : Below B w w') : Es w' B e where
 var k h1 h2 := by rw [hb.cell (by have := h.low; simp; omega)]; exact h.var k h1 h2
 low := h.low
 big := Nat.le_trans h.big hb.size
theorem Es.drew {w : World} {B : Nat} {e : Nat → Addr} (h : Es w B e) : Es w.drew B e := h.below (Below.refl _ _).drew
set_option maxHeartbeats 4000000 in
theorem esOf_any (e : Nat → Addr) (B : Nat) (w : World) (hs : Es w B e) (k : Nat) (h : k = 1 ∨ k = 7 ∨ k = 8) :
  Calls Tryz.prog 20 #[.int .i64 k] w fun x w' => x = .returned (bot (e k)) ∧ w' = w := by
 have hv := hs.var k (by omega) (by omega)
 have HS := Lib.hid hs
 clear hs
 unfold bot
 rcases h with rfl | rfl | rfl
 all_goals
  try simp only [Nat.reduceSub] at hv
  go_enter Tryz.func20, Tryz.ntmps20
  go_wp2
  go_ret
  exact ⟨rfl, rfl⟩
theorem esWrap_At (vt : TypeId) (vv : Value) (n : Int) (w : World) :
  Calls Tryz.prog 22 #[.iface vt vv, .int .i64 n] w fun e w' => e = .returned (.iface 98 (.pointer (some ⟨w.heap.size, 0, none⟩))) ∧ w' = w.alloc (.cells #[.iface vt vv, .int .i64 n] 100) := by
 go_enter Tryz.func22, Tryz.ntmps22
 go_wp2
 go_ret
 exact ⟨rfl, rfl⟩
theorem esWrap_In (vt : TypeId) (vv : Value) (n : Int) (w : World) :
  Calls Tryz.prog 21 #[.iface vt vv, .int .i64 n] w fun e w' => e = .returned (.iface 95 (.pointer (some ⟨w.heap.size, 0, none⟩))) ∧ w' = w.alloc (.cells #[.iface vt vv, .int .i64 n] 97) := by
 go_enter Tryz.func21, Tryz.ntmps21
 go_wp2
 go_ret
 exact ⟨rfl, rfl⟩
def ErrS (w : World) (B : Nat) (e : Nat → Addr) (lg : Int) (c : Nat) (p : Int) (v : Value) : Prop :=
 ∃ k j, v = .iface 95 (.pointer (some ⟨k, 0, none⟩)) ∧ B ≤ k ∧ k < w.heap.size ∧ B ≤ j ∧ j < w.heap.size ∧
  w.heap[k]? = some (.cells #[.iface 98 (.pointer (some ⟨j, 0, none⟩)), .int .i64 lg] 97) ∧
  w.heap[j]? = some (.cells #[bot (e c), .int .i64 p] 100)
theorem ErrS.chn {w : World} {B : Nat} {e : Nat → Addr} {lg : Int} {c : Nat} {p : Int} {v : Value} (h : ErrS w B e lg c p v) : Chn w [(true, lg), (false, p)] v (bot (e c)) := by
 obtain ⟨k, j, rfl, _, _, _, _, h1, h2⟩ := h
 exact ⟨k, _, rfl, h1, j, _, rfl, h2, rfl⟩
theorem ErrS.kept {w w' : World} {B : Nat} {e : Nat → Addr} {lg : Int} {c : Nat} {p : Int} {v : Value} (h : ErrS w B e lg c p v) (hz : w.heap.size ≤ w'.heap.size) (hb : ∀ i, B ≤ i → i < w.heap.size → w'.heap[i]? = w.heap[i]?) : ErrS w' B e lg c p v := by
 obtain ⟨k, j, rfl, k1, k2, j1, j2, h1, h2⟩ := h
 exact ⟨k, j, rfl, k1, Nat.lt_of_lt_of_le k2 hz, j1, Nat.lt_of_lt_of_le j2 hz, (hb k k1 k2).trans h1, (hb j j1 j2).trans h2⟩
theorem ErrS.below {w w' : World} {B : Nat} {e : Nat → Addr} {lg : Int} {c : Nat} {p : Int} {v : Value} (h : ErrS w B e lg c p v) (hb : Below w.heap.size w w') : ErrS w' B e lg c p v :=
 h.kept hb.size fun i _ hi => hb.block i hi
theorem ErrS.lower {w : World} {B B' : Nat} {e : Nat → Addr} {lg : Int} {c : Nat} {p : Int} {v : Value} (h : ErrS w B e lg c p v) (hb : B' ≤ B) : ErrS w B' e lg c p v := by
 obtain ⟨k, j, rfl, k1, k2, j1, j2, h1, h2⟩ := h
 exact ⟨k, j, rfl, Nat.le_trans hb k1, k2, Nat.le_trans hb j1, j2, h1, h2⟩
set_option maxRecDepth 100000 in
theorem refuse_any (rb : Nat) (lg : Int) (e : Nat → Addr) (B c p : Nat) (h : c = 1 ∨ c = 7 ∨ c = 8) (w : World) (he : Es w B e) (hr : w.cell? ⟨rb, 2, none⟩ = some (.int .i64 lg)) :
  Calls Tryz.prog 88 #[.pointer (some ⟨rb, 0, none⟩), .int .i64 c, .int .i64 p] w fun x w' => ∃ v, x = .returned v ∧ ErrS w' w.heap.size e lg c p v ∧ Below w.heap.size w w' := by
 have hlt : rb < w.heap.size := World.block_lt_of_cell? _ _ hr
 have HW : Hid (Below w.heap.size w w.drew ∧ Es w.drew B e ∧ w.drew.cell? ⟨rb, 2, none⟩ = some (.int .i64 lg)) := Lib.hid ⟨(Below.refl _ _).drew, he.drew, hr⟩
 clear he hr
 go_enter Tryz.func88, Tryz.ntmps88
 go_wp2_with fail
 refine Reg.wp_region_vals (fun X => Below w.heap.size w X ∧ Es X B e ∧ X.cell? ⟨rb, 2, none⟩ = some (.int .i64 lg)) (fun j => ([some (.int .i64 c), some (bot (e c)), some (.int .i64 p), none, some (.pointer (some ⟨rb, 0, none⟩)), some (.pointer (some ⟨rb, 0, none⟩)), some (.pointer (some ⟨rb, 2, none⟩)), some (.int .i64 lg), none, none] : List (Option Value)).getD j none) (fun j x X => if j = 3 then ∃ b, x = .iface 98 (.pointer (some ⟨b, 0, none⟩)) ∧ w.heap.size ≤ b ∧ b < X.heap.size ∧ X.heap[b]? = some (.cells #[bot (e c), .int .i64 p] 100) else ErrS X w.heap.size e lg c p x) (by kernel_rfl) (by kernel_rfl) (by kernel_rfl) (by kernel_rfl) ?rs0 ?rsE ?rsZ
 case rs0 => exact HW.out
 case rsE =>
  refine Reg.EachV.plain rfl (fun T X hS hk K hK => ?_) ?_
  ·skip
   have g1 := hk.old 1 (by kernel_rfl) rfl
   have hK := hK _ X hS (Reg.Is.of_val rfl) (fun _ _ _ h => h)
   clear hk
   go_simp
   exact hK
  refine Reg.EachV.plain rfl (fun T X hS hk K hK => ?_) ?_
  ·skip
   have g7 := hk.val 0 7 (by kernel_rfl) (by kernel_rfl) rfl
   clear hk
   go_simp
   refine (esOf_any e B _ hS.2.1 c h).mono ?_
   rintro e w1 ⟨rfl, rfl⟩
   exact hK _ _ (hS) (Reg.Is.of_val rfl) (fun _ _ _ h => h)
  refine Reg.EachV.plain rfl (fun T X hS hk K hK => ?_) ?_
  ·skip
   have g2 := hk.old 2 (by kernel_rfl) rfl
   have hK := hK _ X hS (Reg.Is.of_val rfl) (fun _ _ _ h => h)
   clear hk
   go_simp
   exact hK
  refine Reg.EachV.plain rfl (fun T X hS hk K hK => ?_) ?_
  ·skip
   have g8 := hk.val 1 8 (by kernel_rfl) (by kernel_rfl) rfl
   have g9 := hk.val 2 9 (by kernel_rfl) (by kernel_rfl) rfl
   unfold bot at g8
   clear hk
   go_simp
   refine (esWrap_At _ _ _ _).mono ?_
   rintro x w1 ⟨rfl, rfl⟩
   have hb : Below X.heap.size X (X.alloc (.cells #[bot (e c), .int .i64 p] 100)) := (Below.refl _ _).alloc (Nat.le_refl _) _
   refine hK _ _ ⟨below_thn hS.1 (Nat.le_refl _) hb, hS.2.1.below (hb.mono hS.2.1.big), (hb.cell (World.block_lt_of_cell? _ _ hS.2.2)).trans hS.2.2⟩ (Reg.Is.of_prop rfl ?_) (by intro j x hj hx; by_cases h3 : j = 3; (rw [if_pos h3] at hx ⊢; obtain ⟨b, rfl, b1, b2, b3⟩ := hx; exact ⟨b, rfl, b1, Nat.lt_of_lt_of_le b2 hb.size, (hb.block b b2).trans b3⟩); (rw [if_neg h3] at hx ⊢; exact ErrS.below hx hb))
   try dsimp only
   rw [if_pos rfl]
   exact ⟨_, rfl, hS.1.size, by simp, alloc_last _ _⟩
  refine Reg.EachV.plain rfl (fun T X hS hk K hK => ?_) ?_
  ·skip
   have g0 := hk.old 0 (by kernel_rfl) rfl
   have hK := hK _ X hS (Reg.Is.of_val rfl) (fun _ _ _ h => h)
   clear hk
   go_simp
   exact hK
  refine Reg.EachV.plain rfl (fun T X hS hk K hK => ?_) ?_
  ·skip
   have g11 := hk.val 4 11 (by kernel_rfl) (by kernel_rfl) rfl
   have hrb : rb < X.heap.size := World.block_lt_of_cell? _ _ hS.2.2
   have hK := hK _ X hS (Reg.Is.of_val rfl) (fun _ _ _ h => h)
   clear hk
   go_simp
   exact hK
  refine Reg.EachV.plain rfl (fun T X hS hk K hK => ?_) ?_
  ·skip
   have g12 := hk.val 5 12 (by kernel_rfl) (by kernel_rfl) rfl
   have hK := hK _ X hS (Reg.Is.of_val rfl) (fun _ _ _ h => h)
   clear hk
   go_simp
   exact hK
  refine Reg.EachV.plain rfl (fun T X hS hk K hK => ?_) ?_
  ·skip
   have g13 := hk.val 6 13 (by kernel_rfl) (by kernel_rfl) rfl
   have y := hS.2.2
   have hK := hK _ X hS (Reg.Is.of_val rfl) (fun _ _ _ h => h)
   clear hk
   go_simp
   exact hK
  refine Reg.EachV.plain rfl (fun T X hS hk K hK => ?_) ?_
  ·skip
   obtain ⟨x10, g10, r10⟩ := hk.prop 3 10 (by kernel_rfl) (by kernel_rfl) rfl
   have g14 := hk.val 7 14 (by kernel_rfl) (by kernel_rfl) rfl
   try dsimp only at r10
   rw [if_pos rfl] at r10
   obtain ⟨b, rfl, b1, b2, b3⟩ := r10
   clear hk
   go_simp
   refine (esWrap_In _ _ _ _).mono ?_
   rintro x w1 ⟨rfl, rfl⟩
   have hb : Below X.heap.size X (X.alloc (.cells #[.iface 98 (.pointer (some ⟨b, 0, none⟩)), .int .i64 lg] 97)) := (Below.refl _ _).alloc (Nat.le_refl _) _
   refine hK _ _ ⟨below_thn hS.1 (Nat.le_refl _) hb, hS.2.1.below (hb.mono hS.2.1.big), (hb.cell (World.block_lt_of_cell? _ _ hS.2.2)).trans hS.2.2⟩ (Reg.Is.of_prop rfl ?_) (by intro j x hj hx; by_cases h3 : j = 3; (rw [if_pos h3] at hx ⊢; obtain ⟨b, rfl, b1, b2, b3⟩ := hx; exact ⟨b, rfl, b1, Nat.lt_of_lt_of_le b2 hb.size, (hb.block b b2).trans b3⟩); (rw [if_neg h3] at hx ⊢; exact ErrS.below hx hb))
   try dsimp only
   rw [if_neg (by decide)]
   exact ⟨X.heap.size, b, rfl, hS.1.size, by simp, b1, by simp; omega, alloc_last _ _, (hb.block b b2).trans b3⟩
  refine Reg.EachV.plain rfl (fun T X hS hk K hK => ?_) ?_
  ·skip
   obtain ⟨x15, g15, r15⟩ := hk.prop 8 15 (by kernel_rfl) (by kernel_rfl) rfl
   clear hk
   have hK := hK x15 X hS (Reg.Is.of_prop rfl r15) (fun _ _ _ h => h)
   go_simp
   exact hK
  exact Reg.EachV.nil
 case rsZ =>
  intro u w1 hS hI
  have e0 : u 0 = .int .i64 c := (hI 0 (by decide)).val rfl
  have e1 : u 1 = bot (e c) := (hI 1 (by decide)).val rfl
  have e2 : u 2 = .int .i64 p := (hI 2 (by decide)).val rfl
  have e3 := (hI 3 (by decide)).prop rfl
  have e4 : u 4 = .pointer (some ⟨rb, 0, none⟩) := (hI 4 (by decide)).val rfl
  have e5 : u 5 = .pointer (some ⟨rb, 0, none⟩) := (hI 5 (by decide)).val rfl
  have e6 : u 6 = .pointer (some ⟨rb, 2, none⟩) := (hI 6 (by decide)).val rfl
  have e7 : u 7 = .int .i64 lg := (hI 7 (by decide)).val rfl
  have e8 := (hI 8 (by decide)).prop rfl
  have e9 := (hI 9 (by decide)).prop rfl
  clear hI
  simp only [Reg.putAll, Act.put, List.setIfInBounds_toArray, List.set_cons_succ, List.set_cons_zero, Nat.zero_add, Nat.reduceAdd, e0, e1, e2, e4, e5, e6, e7]
  clear e0 e1 e2 e4 e5 e6 e7
  try dsimp only at e9
  rw [if_neg (by decide)] at e9
  generalize u 9 = x9 at *
  have HB := Lib.hid hS.1
  have HE := Lib.hid e9
  clear hS e9 e3 e8
  go_wp2
  go_ret
  exact ⟨_, rfl, HE.out, HB.out⟩
end Go.Proofs.YtnpkcllbpnmabaaGreatDoor
