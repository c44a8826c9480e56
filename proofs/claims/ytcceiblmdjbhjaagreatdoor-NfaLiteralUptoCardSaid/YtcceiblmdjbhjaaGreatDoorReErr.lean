/- The reader's own errors: refuse, langOf, told (gen_reerr.py). -/
import Derived.Test.YtcceiblmdjbhjaaGreatDoorReAs
import Derived.Test.YtcceiblmdjbhjaaGreatDoorKItx
namespace Go.Proofs.YtcceiblmdjbhjaaGreatDoor
open Go.RowKit

/-- An error that knows its place alone. -/
def ErrR (w : World) (e : Nat → Addr) (c : Nat) (p : Int) (v : Value) : Prop := ∃ k, v = .iface 137 (.pointer (some ⟨k, 0, none⟩)) ∧ w.heap[k]? = some (.cells #[bot (e c), .int .i64 p] 140)
def langR (ext : Bool) : Int := if ext then 4 else 3
/-- An error that the reader met: one of its own, or a bracket's. -/
def ErrQ (w : World) (e : Nat → Addr) (ext : Bool) (c : Nat) (p : Int) (v : Value) : Prop := ErrR w e c p v ∨ ErrS w 0 e (langR ext) c p v
/-- It stays where the blocks of its types do. -/
theorem ErrQ.kept {w w' : World} {e : Nat → Addr} {ext : Bool} {c : Nat} {p : Int} {v : Value} (h : ErrQ w e ext c p v) (hz : w.heap.size ≤ w'.heap.size)
    (hk : ∀ (k : Nat) (cs : Array Value) (T : TypeId), (T = 140 ∨ T = 80 ∨ T = 75) → w.heap[k]? = some (.cells cs T (0, 0)) → w'.heap[k]? = w.heap[k]?) : ErrQ w' e ext c p v := by
  rcases h with ⟨k, rfl, h1⟩ | ⟨k, j, rfl, k1, k2, j1, j2, h1, h2⟩
  · exact Or.inl ⟨k, rfl, (hk k _ _ (Or.inl rfl) h1).trans h1⟩
  · exact Or.inr ⟨k, j, rfl, k1, Nat.lt_of_lt_of_le k2 hz, j1, Nat.lt_of_lt_of_le j2 hz, (hk k _ _ (Or.inr (Or.inl rfl)) h1).trans h1, (hk j _ _ (Or.inr (Or.inr rfl)) h2).trans h2⟩
theorem ErrQ.below {w w' : World} {e : Nat → Addr} {ext : Bool} {c : Nat} {p : Int} {v : Value} (h : ErrQ w e ext c p v) (hb : Below w.heap.size w w') : ErrQ w' e ext c p v :=
  h.kept hb.size fun k _ _ _ hc => hb.block k (lt_blkB hc)

set_option maxHeartbeats 4000000 in
theorem reOf_any (e : Nat → Addr) (B : Nat) (w : World) (hs : Es w B e) (k : Nat) (h : k = 2 ∨ k = 3 ∨ k = 5 ∨ k = 7 ∨ k = 9 ∨ k = 10) :
    Calls Tryz.prog 30 #[.int .i64 k] w fun x w' => x = .returned (bot (e k)) ∧ w' = w := by
  have hv := hs.var k (by omega) (by omega)
  have HS := Lib.hid hs
  clear hs
  unfold bot
  rcases h with rfl | rfl | rfl | rfl | rfl | rfl
  all_goals
    try simp only [Nat.reduceSub] at hv
    go_enter Tryz.func30, Tryz.ntmps30
    go_wp2
    go_ret
    exact ⟨rfl, rfl⟩
set_option maxHeartbeats 4000000 in
theorem refz_any (e : Nat → Addr) (B : Nat) (w : World) (hs : Es w B e) (c : Nat) (p : Int) (h : c = 2 ∨ c = 3 ∨ c = 5 ∨ c = 7 ∨ c = 9 ∨ c = 10) :
    Calls Tryz.prog 57 #[.int .i64 c, .int .i64 p] w fun x w' => x = .returned (.iface 137 (.pointer (some ⟨w.heap.size, 0, none⟩))) ∧ w' = w.alloc (.cells #[bot (e c), .int .i64 p] 140) := by
  have HO := Lib.hid (reOf_any e B w hs c h)
  unfold bot at *
  clear h hs
  go_enter Tryz.func57, Tryz.ntmps57
  go_wp2_with (go_at_call 30; refine HO.out.mono ?_; rintro x w' ⟨rfl, rfl⟩)
  go_ret
  exact ⟨rfl, rfl⟩
theorem refz_err (e : Nat → Addr) (ext : Bool) (B : Nat) (w : World) (hs : Es w B e) (c : Nat) (p : Int) (h : c = 2 ∨ c = 3 ∨ c = 5 ∨ c = 7 ∨ c = 9 ∨ c = 10) :
    Calls Tryz.prog 57 #[.int .i64 c, .int .i64 p] w fun x w' => ∃ k, x = .returned (.iface 137 (.pointer (some ⟨k, 0, none⟩))) ∧ ErrQ w' e ext c p (.iface 137 (.pointer (some ⟨k, 0, none⟩))) ∧ Below w.heap.size w w' := by
  refine (refz_any e B w hs c p h).mono ?_
  rintro x w' ⟨rfl, rfl⟩
  exact ⟨_, rfl, Or.inl ⟨_, rfl, alloc_last w _⟩, (Below.refl _ _).alloc (Nat.le_refl _) _⟩
theorem langOf_any (ext : Bool) (w : World) : Calls Tryz.prog 80 #[.bool ext] w fun x w' => x = .returned (.int .i64 (langR ext)) ∧ w' = w := by
  cases ext
  all_goals
    go_enter Tryz.func80, Tryz.ntmps80
    go_wp2
    go_ret
    exact ⟨rfl, rfl⟩
/-- errors' own variable: the type of errors. -/
def Ety (w : World) : Prop := w.cell? ⟨21, 0, none⟩ = some (.iface 188 (.agg #[.pointer (some ⟨22, 35, none⟩)]))
theorem Ety.below {w w' : World} (h : Ety w) (hb : Below w.heap.size w w') : Ety w' := ety_keep h hb

set_option maxRecDepth 100000 in
set_option maxHeartbeats 4000000 in
theorem told_s (e : Nat → Addr) (ext : Bool) (c : Nat) (p : Int) (v : Value) (w : World) (ht : Ety w) (h : ErrS w 0 e (langR ext) c p v) :
    Calls Tryz.prog 56 #[v, .bool ext] w fun x w' => x = .returned v ∧ Below w.heap.size w w' := by
  obtain ⟨kk, rfl⟩ := h.iface
  have hb1 : Below w.heap.size w (w.alloc (.cells #[.pointer none] 137)) := (Below.refl _ _).alloc (Nat.le_refl _) _
  have HA := Lib.hid (eas_missR _ _ (e c) ⟨w.heap.size, 0, none⟩ (.pointer none) w (w.alloc (.cells #[.pointer none] 137)) hb1 (ht.below hb1) h.chn (by simp) (by simp))
  have HB := Lib.hid hb1
  clear h ht hb1
  go_enter Tryz.func56, Tryz.ntmps56
  go_wp2_with fail
  refine HA.out.mono ?_
  rintro x w1 ⟨rfl, hb⟩
  have HB1 := Lib.hid (Below.step HB.out hb)
  clear hb
  go_wp2
  go_ret
  exact ⟨rfl, HB1.out⟩

set_option maxRecDepth 100000 in
set_option maxHeartbeats 8000000 in
theorem told_r (e : Nat → Addr) (ext : Bool) (c : Nat) (p : Int) (v : Value) (w : World) (ht : Ety w) (h : ErrR w e c p v) :
    Calls Tryz.prog 56 #[v, .bool ext] w fun x w' => ∃ v', x = .returned v' ∧ ErrS w' w.heap.size e (langR ext) c p v' ∧ Below w.heap.size w w' := by
  obtain ⟨kk, rfl, hk⟩ := h
  have hkl := lt_blkB hk
  have hb1 : Below w.heap.size w (w.alloc (.cells #[.pointer none] 137)) := (Below.refl _ _).alloc (Nat.le_refl _) _
  have HA := Lib.hid (eas_hitR kk ⟨w.heap.size, 0, none⟩ (.pointer none) (w.alloc (.cells #[.pointer none] 137)) (ht.below hb1) (by simp) (by simp))
  have HB := Lib.hid hb1
  have HK := Lib.hid hk
  clear hk ht hb1
  go_enter Tryz.func56, Tryz.ntmps56
  go_wp2_with fail
  refine HA.out.mono ?_
  rintro x w1 ⟨rfl, w2, hb, rfl⟩
  have HB2 := Lib.hid (Below.step HB.out hb)
  have hob : w2.heap[w.heap.size]? = some (.cells #[.pointer none] 137) := (hb.block w.heap.size (by simp)).trans (alloc_last w _)
  have hkb : w2.heap[kk]? = some (.cells #[bot (e c), .int .i64 p] 140) := (HB2.out.block kk hkl).trans HK.out
  have hne : kk ≠ w.heap.size := Nat.ne_of_lt hkl
  obtain ⟨W, hW⟩ : ∃ W, W = w2.setCell ⟨w.heap.size, 0, none⟩ (.pointer (some ⟨kk, 0, none⟩)) := ⟨_, rfl⟩
  rw [← hW]
  have HO : Hid (W.cell? ⟨w.heap.size, 0, none⟩ = some (.pointer (some ⟨kk, 0, none⟩))) := Lib.hid (by
    rw [hW]
    show (match (w2.heap.modify w.heap.size _)[w.heap.size]? with | some (.cells cs _ _) => cs[0]? | _ => none) = _
    rw [Array.getElem?_modify, if_pos rfl, hob]
    rfl)
  have HKW : Hid (W.heap[kk]? = some (.cells #[bot (e c), .int .i64 p] 140)) := Lib.hid (by rw [hW, Below.heap_setCell _ _ _ _ hne]; exact hkb)
  have HBW : Hid (Below w.heap.size w W) := Lib.hid (by rw [hW]; exact HB2.out.setCell (Nat.le_refl _) _)
  clear hW hb hob hkb
  go_wp2_with fail
  refine Reg.wp_region_vals (fun X => Below w.heap.size w X ∧ X.cell? ⟨w.heap.size, 0, none⟩ = some (.pointer (some ⟨kk, 0, none⟩)) ∧ X.heap[kk]? = some (.cells #[bot (e c), .int .i64 p] 140)) (fun j => ([some (.pointer (some ⟨kk, 0, none⟩)), some (.pointer (some ⟨kk, 0, none⟩)), some (.pointer (some ⟨kk, 0, none⟩)), some (bot (e c)), some (.pointer (some ⟨kk, 0, none⟩)), some (.pointer (some ⟨kk, 0, none⟩)), some (.pointer (some ⟨kk, 1, none⟩)), some (.int .i64 p), none, some (.bool ext), some (.int .i64 (langR ext)), none, none] : List (Option Value)).getD j none) (fun j x X => if j = 8 then ∃ b, x = .iface 71 (.pointer (some ⟨b, 0, none⟩)) ∧ w.heap.size ≤ b ∧ b < X.heap.size ∧ X.heap[b]? = some (.cells #[bot (e c), .int .i64 p] 75) else ErrS X w.heap.size e (langR ext) c p x) (by kernel_rfl) (by kernel_rfl) (by kernel_rfl) (by kernel_rfl) ?rs0 ?rsE ?rsZ
  case rs0 => exact ⟨HBW.out.drew, HO.out, HKW.out⟩
  case rsE =>
    refine Reg.EachV.plain rfl (fun T X hS hk K hK => ?_) ?_
    · skip
      have g5 : T[5]? = some (.pointer (some ⟨w.heap.size, 0, none⟩)) := hk.old 5 (by kernel_rfl) rfl
      have y := hS.2.1
      have hK := hK _ X hS (Reg.Is.of_val rfl) (fun _ _ _ h => h)
      clear hk
      go_simp
      exact hK
    refine Reg.EachV.plain rfl (fun T X hS hk K hK => ?_) ?_
    · skip
      have g11 : T[11]? = some (.pointer (some ⟨kk, 0, none⟩)) := hk.val 0 11 (by kernel_rfl) (by kernel_rfl) rfl
      have hkz := lt_blkB hS.2.2
      have hK := hK _ X hS (Reg.Is.of_val rfl) (fun _ _ _ h => h)
      clear hk
      go_simp
      exact hK
    refine Reg.EachV.plain rfl (fun T X hS hk K hK => ?_) ?_
    · skip
      have g12 : T[12]? = some (.pointer (some ⟨kk, 0, none⟩)) := hk.val 1 12 (by kernel_rfl) (by kernel_rfl) rfl
      have hkz := lt_blkB hS.2.2
      have hK := hK _ X hS (Reg.Is.of_val rfl) (fun _ _ _ h => h)
      clear hk
      go_simp
      exact hK
    refine Reg.EachV.plain rfl (fun T X hS hk K hK => ?_) ?_
    · skip
      have g13 : T[13]? = some (.pointer (some ⟨kk, 0, none⟩)) := hk.val 2 13 (by kernel_rfl) (by kernel_rfl) rfl
      have y := Lib.cell_of_heap hS.2.2 0
      have hkz := lt_blkB hS.2.2
      rw [show (#[bot (e c), Value.int .i64 p] : Array Value)[0]? = some (bot (e c)) from rfl] at y
      have hK := hK _ X hS (Reg.Is.of_val rfl) (fun _ _ _ h => h)
      clear hk
      go_simp
      exact hK
    refine Reg.EachV.plain rfl (fun T X hS hk K hK => ?_) ?_
    · skip
      have g5 : T[5]? = some (.pointer (some ⟨w.heap.size, 0, none⟩)) := hk.old 5 (by kernel_rfl) rfl
      have y := hS.2.1
      have hK := hK _ X hS (Reg.Is.of_val rfl) (fun _ _ _ h => h)
      clear hk
      go_simp
      exact hK
    refine Reg.EachV.plain rfl (fun T X hS hk K hK => ?_) ?_
    · skip
      have g15 : T[15]? = some (.pointer (some ⟨kk, 0, none⟩)) := hk.val 4 15 (by kernel_rfl) (by kernel_rfl) rfl
      have hkz := lt_blkB hS.2.2
      have hK := hK _ X hS (Reg.Is.of_val rfl) (fun _ _ _ h => h)
      clear hk
      go_simp
      exact hK
    refine Reg.EachV.plain rfl (fun T X hS hk K hK => ?_) ?_
    · skip
      have g16 : T[16]? = some (.pointer (some ⟨kk, 0, none⟩)) := hk.val 5 16 (by kernel_rfl) (by kernel_rfl) rfl
      have hkz := lt_blkB hS.2.2
      have hK := hK _ X hS (Reg.Is.of_val rfl) (fun _ _ _ h => h)
      clear hk
      go_simp
      exact hK
    refine Reg.EachV.plain rfl (fun T X hS hk K hK => ?_) ?_
    · skip
      have g17 : T[17]? = some (.pointer (some ⟨kk, 1, none⟩)) := hk.val 6 17 (by kernel_rfl) (by kernel_rfl) rfl
      have y := Lib.cell_of_heap hS.2.2 1
      have hkz := lt_blkB hS.2.2
      rw [show (#[bot (e c), Value.int .i64 p] : Array Value)[1]? = some (Value.int .i64 p) from rfl] at y
      have hK := hK _ X hS (Reg.Is.of_val rfl) (fun _ _ _ h => h)
      clear hk
      go_simp
      exact hK
    refine Reg.EachV.plain rfl (fun T X hS hk K hK => ?_) ?_
    · skip
      have g14 : T[14]? = some (bot (e c)) := hk.val 3 14 (by kernel_rfl) (by kernel_rfl) rfl
      have g18 : T[18]? = some (.int .i64 p) := hk.val 7 18 (by kernel_rfl) (by kernel_rfl) rfl
      unfold bot at g14
      clear hk
      go_simp
      refine (esWrap_At _ _ _ _).mono ?_
      rintro x w1 ⟨rfl, rfl⟩
      have hb : Below X.heap.size X (X.alloc (.cells #[bot (e c), .int .i64 p] 75)) := (Below.refl _ _).alloc (Nat.le_refl _) _
      refine hK _ _ ⟨below_thn hS.1 (Nat.le_refl _) hb, (hb.cell (World.block_lt_of_cell? _ _ hS.2.1)).trans hS.2.1, (hb.block kk (lt_blkB hS.2.2)).trans hS.2.2⟩ (Reg.Is.of_prop rfl ?_) (by intro j x hj hx; by_cases h3 : j = 8; (rw [if_pos h3] at hx ⊢; obtain ⟨b, rfl, b1, b2, b3⟩ := hx; exact ⟨b, rfl, b1, Nat.lt_of_lt_of_le b2 hb.size, (hb.block b b2).trans b3⟩); (rw [if_neg h3] at hx ⊢; exact ErrS.below hx hb))
      try dsimp only
      rw [if_pos rfl]
      exact ⟨_, rfl, hS.1.size, by simp, alloc_last _ _⟩
    refine Reg.EachV.plain rfl (fun T X hS hk K hK => ?_) ?_
    · skip
      have g1 : T[1]? = some (.bool ext) := hk.old 1 (by kernel_rfl) rfl
      have hK := hK _ X hS (Reg.Is.of_val rfl) (fun _ _ _ h => h)
      clear hk
      go_simp
      exact hK
    refine Reg.EachV.plain rfl (fun T X hS hk K hK => ?_) ?_
    · skip
      have g20 : T[20]? = some (.bool ext) := hk.val 9 20 (by kernel_rfl) (by kernel_rfl) rfl
      clear hk
      go_simp
      refine (langOf_any ext _).mono ?_
      rintro x w1 ⟨rfl, rfl⟩
      exact hK _ _ (hS) (Reg.Is.of_val rfl) (fun _ _ _ h => h)
    refine Reg.EachV.plain rfl (fun T X hS hk K hK => ?_) ?_
    · skip
      obtain ⟨x19, g19, r19⟩ := hk.prop 8 19 (by kernel_rfl) (by kernel_rfl) rfl
      have g21 : T[21]? = some (.int .i64 (langR ext)) := hk.val 10 21 (by kernel_rfl) (by kernel_rfl) rfl
      try dsimp only at r19
      rw [if_pos rfl] at r19
      obtain ⟨b, rfl, b1, b2, b3⟩ := r19
      clear hk
      go_simp
      refine (esWrap_In _ _ _ _).mono ?_
      rintro x w1 ⟨rfl, rfl⟩
      have hb : Below X.heap.size X (X.alloc (.cells #[.iface 71 (.pointer (some ⟨b, 0, none⟩)), .int .i64 (langR ext)] 80)) := (Below.refl _ _).alloc (Nat.le_refl _) _
      refine hK _ _ ⟨below_thn hS.1 (Nat.le_refl _) hb, (hb.cell (World.block_lt_of_cell? _ _ hS.2.1)).trans hS.2.1, (hb.block kk (lt_blkB hS.2.2)).trans hS.2.2⟩ (Reg.Is.of_prop rfl ?_) (by intro j x hj hx; by_cases h3 : j = 8; (rw [if_pos h3] at hx ⊢; obtain ⟨b, rfl, b1, b2, b3⟩ := hx; exact ⟨b, rfl, b1, Nat.lt_of_lt_of_le b2 hb.size, (hb.block b b2).trans b3⟩); (rw [if_neg h3] at hx ⊢; exact ErrS.below hx hb))
      try dsimp only
      rw [if_neg (by decide)]
      exact ⟨X.heap.size, b, rfl, hS.1.size, by simp, b1, by simp; omega, alloc_last _ _, (hb.block b b2).trans b3⟩
    refine Reg.EachV.plain rfl (fun T X hS hk K hK => ?_) ?_
    · skip
      obtain ⟨x22, g22, r22⟩ := hk.prop 11 22 (by kernel_rfl) (by kernel_rfl) rfl
      clear hk
      have hK := hK x22 X hS (Reg.Is.of_prop rfl r22) (fun _ _ _ h => h)
      go_simp
      exact hK
    exact Reg.EachV.nil
  case rsZ =>
    intro u w1 hS hI
    have e0 : u 0 = .pointer (some ⟨kk, 0, none⟩) := (hI 0 (by decide)).val rfl
    have e1 : u 1 = .pointer (some ⟨kk, 0, none⟩) := (hI 1 (by decide)).val rfl
    have e2 : u 2 = .pointer (some ⟨kk, 0, none⟩) := (hI 2 (by decide)).val rfl
    have e3 : u 3 = bot (e c) := (hI 3 (by decide)).val rfl
    have e4 : u 4 = .pointer (some ⟨kk, 0, none⟩) := (hI 4 (by decide)).val rfl
    have e5 : u 5 = .pointer (some ⟨kk, 0, none⟩) := (hI 5 (by decide)).val rfl
    have e6 : u 6 = .pointer (some ⟨kk, 1, none⟩) := (hI 6 (by decide)).val rfl
    have e7 : u 7 = .int .i64 p := (hI 7 (by decide)).val rfl
    have e8 := (hI 8 (by decide)).prop rfl
    have e9 : u 9 = .bool ext := (hI 9 (by decide)).val rfl
    have e10 : u 10 = .int .i64 (langR ext) := (hI 10 (by decide)).val rfl
    have e11 := (hI 11 (by decide)).prop rfl
    have e12 := (hI 12 (by decide)).prop rfl
    clear hI
    simp only [Reg.putAll, Act.put, List.setIfInBounds_toArray, List.set_cons_succ, List.set_cons_zero, Nat.zero_add, Nat.reduceAdd, e0, e1, e2, e3, e4, e5, e6, e7, e9, e10]
    clear e0 e1 e2 e3 e4 e5 e6 e7 e9 e10
    try dsimp only at e12
    rw [if_neg (by decide)] at e12
    generalize u 12 = x12 at *
    have HBE := Lib.hid hS.1
    have HE := Lib.hid e12
    clear hS e12 e8 e11
    go_wp2
    go_ret
    exact ⟨_, rfl, HE.out, HBE.out⟩

/-- told. -/
theorem told_any (e : Nat → Addr) (ext : Bool) (c : Nat) (p : Int) (v : Value) (w : World) (ht : Ety w) (h : ErrQ w e ext c p v) :
    Calls Tryz.prog 56 #[v, .bool ext] w fun x w' => ∃ k, x = .returned (.iface 76 (.pointer (some ⟨k, 0, none⟩))) ∧ ErrS w' 0 e (langR ext) c p (.iface 76 (.pointer (some ⟨k, 0, none⟩))) ∧ Below w.heap.size w w' := by
  rcases h with h | h
  · refine (told_r e ext c p v w ht h).mono ?_
    rintro x w' ⟨v', rfl, h1, h2⟩
    obtain ⟨k, rfl⟩ := h1.iface
    exact ⟨k, rfl, h1.lower (Nat.zero_le _), h2⟩
  · obtain ⟨k, rfl⟩ := h.iface
    refine (told_s e ext c p _ w ht h).mono ?_
    rintro x w' ⟨rfl, h2⟩
    exact ⟨k, rfl, h.below h2, h2⟩
end Go.Proofs.YtcceiblmdjbhjaaGreatDoor
