/- Does a pattern begin with a dot: the contract of beginsWithDot (gen_dot.py). -/
import Derived.Test.YtoodpajbefffhaaDoorGmM3
import Derived.Test.YtoodpajbefffhaaDoorKRfa
import Derived.Test.YtoodpajbefffhaaDoorKSet
namespace Go.Proofs.YtoodpajbefffhaaDoor
open Go.RowKit

/-- Two sets' words compared. -/
def wEq (p q : Nat → Bool) : Bool := ((sw p 0 : Nat) : Int) == (sw q 0 : Nat) && (((sw p 1 : Nat) : Int) == (sw q 1 : Nat) && (((sw p 2 : Nat) : Int) == (sw q 2 : Nat) && ((sw p 3 : Nat) : Int) == (sw q 3 : Nat)))
def dotB : List Pc → Bool
  | [] => false
  | x :: _ => x.kind == 1 && wEq x.set (mem [46])
set_option maxRecDepth 100000 in
theorem eq_piece (k k' a b c d a' b' c' d' : Int) (w : World) :
    (Op.equalIn 10000 41 (.agg #[.int .i64 k, .int .u64 a, .int .u64 b, .int .u64 c, .int .u64 d]) (.agg #[.int .i64 k', .int .u64 a', .int .u64 b', .int .u64 c', .int .u64 d'])).run Tryd.prog w = .ok (k == k' && ((a == a') && ((b == b') && ((c == c') && (d == d'))))) w := by
  have hf : (Tryd.prog.fieldsOf 41).toList.map (fun f => (f.name, f.type, f.offset)) = [("Kind", 3, 0), ("Set", 39, 1)] := by kernel_rfl
  have hu : Tryd.prog.underlying 41 = some (.struct (Tryd.prog.fieldsOf 41)) := by kernel_rfl
  have hs : Tryd.prog.stoodInHeld 41 = false := by kernel_rfl
  obtain ⟨f0, r0, e0, hf0, hr0⟩ := List.map_eq_cons_iff.1 hf
  obtain ⟨f1, r1, e1, hf1, hr1⟩ := List.map_eq_cons_iff.1 hr0
  have er : r1 = [] := List.map_eq_nil_iff.1 hr1
  subst er
  subst e1
  simp only [Prod.mk.injEq] at hf0 hf1
  have hp0 : ∀ (k a b c d : Value) (w : World), (part 3 #[k, a, b, c, d] 0).run Tryd.prog w = .ok k w := fun k a b c d w => by kernel_rfl
  have hp1 : ∀ (k a b c d : Value) (w : World), (part 39 #[k, a, b, c, d] 1).run Tryd.prog w = .ok (.agg #[a, b, c, d]) w := fun k a b c d w => by kernel_rfl
  have hi : ∀ (d : Nat) (a b : Int) (w : World), (Op.equalIn (d + 1) 3 (.int .i64 a) (.int .i64 b)).run Tryd.prog w = .ok (a == b) w := fun d a b w => run_equalIn_int w d _ .i64 .i64 a b Tryd.underlying3
  rw [show (10000 : Nat) = 9999 + 1 from rfl, run_equalIn_agg w 9999 _ _ _ hu hs, e0]
  simp only [Op.eqFields, hf0.1, hf0.2.1, hf0.2.2, hf1.1, hf1.2.1, hf1.2.2]
  have hi9 := fun (a b : Int) (w : World) => hi 9998 a b w
  have he9 := fun (x0 x1 x2 x3 y0 y1 y2 y3 : Int) (w : World) => eq_arr 9997 x0 x1 x2 x3 y0 y1 y2 y3 w
  simp only [Sem.run_bind, Sem.run_ite, hp0, hp1, hi9, he9, Result.andThen_ok]
  cases (k == k')
  · simp
  · by_cases h1 : a = a' <;> by_cases h2 : b = b' <;> by_cases h3 : c = c' <;> by_cases h4 : d = d' <;> simp [h1, h2, h3, h4]
structure DtI (w : World) (B : Nat) (v : Value) (ps : List Pc) (X : World) : Prop where
  bel : Below w.heap.size w X
  row : X.ownsRow B 41 5 v ps.length (cellsL ps)
theorem DtI.nxt {w : World} {B : Nat} {v : Value} {ps : List Pc} {X X' : World} (h : DtI w B v ps X) (hb : Below X.heap.size X X') : DtI w B v ps X' :=
  ⟨below_thn h.bel (Nat.le_refl _) hb, own_drop h.row hb⟩

set_option maxRecDepth 100000 in
set_option maxHeartbeats 8000000 in
theorem dot_any (ps : List Pc) (v : Value) (B : Nat) (w : World) (hrow : w.ownsRow B 41 5 v ps.length (cellsL ps)) (hl : ps.length ≤ 1048576) :
    Calls Tryd.prog 14 #[v] w fun e w' => e = .returned (.bool (dotB ps)) ∧ Below w.heap.size w w' := by
  obtain ⟨av, capv, rfl⟩ := own_shapeK hrow
  have HI : Hid (DtI w B (.slice av ps.length capv) ps w) := Lib.hid ⟨Below.refl _ _, hrow⟩
  cases ps with
  | nil =>
    go_enter Tryd.func14, Tryd.ntmps14
    go_wp2_with fail
    refine Reg.wp_region_vals (fun X => DtI w B (.slice av 0 capv) [] X) (fun j => ([some (.slice av 0 capv), some (.int .i64 0), some (.bool false), some (.bool false), some undef, some undef, some undef, some undef, some undef, some undef, some (.bool false), some (.bool false)] : List (Option Value)).getD j none) (fun _ _ _ => True) (by kernel_rfl) (by kernel_rfl) (by kernel_rfl) (by kernel_rfl) ?rs0 ?rsE ?rsZ
    case rs0 => exact HI.out.nxt (Below.refl _ _).drew
    case rsE =>
      refine Reg.EachV.plain rfl (fun T X hS hk K hK => ?_) ?_
      · skip
        have g0 : T[0]? = some (.slice av 0 capv) := hk.old 0 (by kernel_rfl) rfl
        have hK := hK _ X hS (Reg.Is.of_val rfl) (fun _ _ _ h => h)
        clear hk
        go_simp
        exact hK
      refine Reg.EachV.plain rfl (fun T X hS hk K hK => ?_) ?_
      · skip
        have g3 : T[3]? = some (.slice av 0 capv) := hk.val 0 3 (by kernel_rfl) (by kernel_rfl) rfl
        have hK := hK _ X hS (Reg.Is.of_val rfl) (fun _ _ _ h => h)
        clear hk
        go_simp
        exact hK
      refine Reg.EachV.plain rfl (fun T X hS hk K hK => ?_) ?_
      · skip
        have g4 : T[4]? = some (.int .i64 0) := hk.val 1 4 (by kernel_rfl) (by kernel_rfl) rfl
        have hK := hK _ X hS (Reg.Is.of_val rfl) (fun _ _ _ h => h)
        clear hk
        go_simp
        exact hK
      refine Reg.EachV.plain rfl (fun T X hS hk K hK => ?_) ?_
      · skip
        have g5 : T[5]? = some (.bool false) := hk.val 2 5 (by kernel_rfl) (by kernel_rfl) rfl
        have hK := hK _ X hS (Reg.Is.of_val rfl) (fun _ _ _ h => h)
        clear hk
        go_simp
        exact hK
      refine Reg.EachV.passed 3 6 false rfl (by kernel_rfl) (by kernel_rfl) rfl rfl ?_
      refine Reg.EachV.passed 3 6 false rfl (by kernel_rfl) (by kernel_rfl) rfl rfl ?_
      refine Reg.EachV.passed 3 6 false rfl (by kernel_rfl) (by kernel_rfl) rfl rfl ?_
      refine Reg.EachV.passed 3 6 false rfl (by kernel_rfl) (by kernel_rfl) rfl rfl ?_
      refine Reg.EachV.passed 3 6 false rfl (by kernel_rfl) (by kernel_rfl) rfl rfl ?_
      refine Reg.EachV.passed 3 6 false rfl (by kernel_rfl) (by kernel_rfl) rfl rfl ?_
      refine Reg.EachV.plain rfl (fun T X hS hk K hK => ?_) ?_
      · skip
        have g6 : T[6]? = some (.bool false) := hk.val 3 6 (by kernel_rfl) (by kernel_rfl) rfl
        have g12 : T[12]? = some (undef) := hk.val 9 12 (by kernel_rfl) (by kernel_rfl) rfl
        have hK := hK _ X hS (Reg.Is.of_val rfl) (fun _ _ _ h => h)
        clear hk
        go_simp
        exact hK
      refine Reg.EachV.plain rfl (fun T X hS hk K hK => ?_) ?_
      · skip
        have g13 : T[13]? = some (.bool false) := hk.val 10 13 (by kernel_rfl) (by kernel_rfl) rfl
        have hK := hK _ X hS (Reg.Is.of_val rfl) (fun _ _ _ h => h)
        clear hk
        go_simp
        exact hK
      exact Reg.EachV.nil
    case rsZ =>
      intro u w1 hS hI
      have e0 : u 0 = .slice av 0 capv := (hI 0 (by decide)).val rfl
      have e1 : u 1 = .int .i64 0 := (hI 1 (by decide)).val rfl
      have e2 : u 2 = .bool false := (hI 2 (by decide)).val rfl
      have e3 : u 3 = .bool false := (hI 3 (by decide)).val rfl
      have e4 : u 4 = undef := (hI 4 (by decide)).val rfl
      have e5 : u 5 = undef := (hI 5 (by decide)).val rfl
      have e6 : u 6 = undef := (hI 6 (by decide)).val rfl
      have e7 : u 7 = undef := (hI 7 (by decide)).val rfl
      have e8 : u 8 = undef := (hI 8 (by decide)).val rfl
      have e9 : u 9 = undef := (hI 9 (by decide)).val rfl
      have e10 : u 10 = .bool false := (hI 10 (by decide)).val rfl
      have e11 : u 11 = .bool false := (hI 11 (by decide)).val rfl
      clear hI
      simp only [Reg.putAll, Act.put, List.setIfInBounds_toArray, List.set_cons_succ, List.set_cons_zero, Nat.zero_add, Nat.reduceAdd, e0, e1, e2, e3, e4, e5, e6, e7, e8, e9, e10, e11]
      clear e0 e1 e2 e3 e4 e5 e6 e7 e8 e9 e10 e11
      have HZ := Lib.hid hS.bel
      clear hS
      go_wp2
      go_ret
      exact ⟨rfl, HZ.out⟩
  | cons x r =>
    obtain ⟨g, hg⟩ : ∃ g, av = some ⟨g, 0, none⟩ := by
      rcases hrow.2 with ⟨_, h0⟩ | ⟨g, cap', cur, e, _⟩
      · simp at h0
      · simp only [Value.slice.injEq] at e
        exact ⟨g, e.1⟩
    subst hg
    obtain ⟨n, hn⟩ : ∃ n, n = (x :: r).length := ⟨_, rfl⟩
    have hn0 : 0 < n := by rw [hn]; simp
    have hnI : decide ((0 : Int) < (n : Int)) = true := by simp; omega
    have HN := Lib.hid hn
    rw [← hn] at HI hl ⊢
    clear hrow hn
    have HOF : Hid (∀ X, Calls Tryd.prog 28 #[.string ⟨#[46]⟩] X fun e w' => e = .returned (.agg #[.int .u64 (sw (mem [46]) 0 : Nat), .int .u64 (sw (mem [46]) 1 : Nat), .int .u64 (sw (mem [46]) 2 : Nat), .int .u64 (sw (mem [46]) 3 : Nat)]) ∧ Below X.heap.size X w') := Lib.hid fun X => by
      have := of_any ⟨#[46]⟩ X (by decide)
      exact this
    have HEQ := Lib.hid (eq_piece x.kind 1 (sw x.set 0 : Nat) (sw x.set 1 : Nat) (sw x.set 2 : Nat) (sw x.set 3 : Nat) (sw (mem [46]) 0 : Nat) (sw (mem [46]) 1 : Nat) (sw (mem [46]) 2 : Nat) (sw (mem [46]) 3 : Nat))
    have HD : Hid ((x.kind == 1 && ((((sw x.set 0 : Nat) : Int) == (sw (mem [46]) 0 : Nat)) && ((((sw x.set 1 : Nat) : Int) == (sw (mem [46]) 1 : Nat)) && ((((sw x.set 2 : Nat) : Int) == (sw (mem [46]) 2 : Nat)) && (((sw x.set 3 : Nat) : Int) == (sw (mem [46]) 3 : Nat)))))) = dotB (x :: r)) := Lib.hid rfl
    rw [HD.out] at HEQ
    generalize dotB (x :: r) = dt at *
    go_enter Tryd.func14, Tryd.ntmps14
    go_wp2_with fail
    refine Reg.wp_region_vals (fun X => DtI w B (.slice (some ⟨g, 0, none⟩) n capv) (x :: r) X) (fun j => ([some (.slice (some ⟨g, 0, none⟩) n capv), some (.int .i64 (n : Nat)), some (.bool true), some (.bool true), some (.slice (some ⟨g, 0, none⟩) n capv), some (.pointer (some ⟨g, 0, none⟩)), some (.agg #[.int .i64 x.kind, .int .u64 (sw x.set 0 : Nat), .int .u64 (sw x.set 1 : Nat), .int .u64 (sw x.set 2 : Nat), .int .u64 (sw x.set 3 : Nat)]), some (.agg #[.int .u64 (sw (mem [46]) 0 : Nat), .int .u64 (sw (mem [46]) 1 : Nat), .int .u64 (sw (mem [46]) 2 : Nat), .int .u64 (sw (mem [46]) 3 : Nat)]), some (.agg #[.int .i64 1, .int .u64 (sw (mem [46]) 0 : Nat), .int .u64 (sw (mem [46]) 1 : Nat), .int .u64 (sw (mem [46]) 2 : Nat), .int .u64 (sw (mem [46]) 3 : Nat)]), some (.bool dt), some (.bool dt), some (.bool dt)] : List (Option Value)).getD j none) (fun _ _ _ => True) (by kernel_rfl) (by kernel_rfl) (by kernel_rfl) (by kernel_rfl) ?rs0 ?rsE ?rsZ
    case rs0 => exact HI.out.nxt (Below.refl _ _).drew
    case rsE =>
      refine Reg.EachV.plain rfl (fun T X hS hk K hK => ?_) ?_
      · skip
        have g0 : T[0]? = some (.slice (some ⟨g, 0, none⟩) n capv) := hk.old 0 (by kernel_rfl) rfl
        have hK := hK _ X hS (Reg.Is.of_val rfl) (fun _ _ _ h => h)
        clear hk
        go_simp
        exact hK
      refine Reg.EachV.plain rfl (fun T X hS hk K hK => ?_) ?_
      · skip
        have g3 : T[3]? = some (.slice (some ⟨g, 0, none⟩) n capv) := hk.val 0 3 (by kernel_rfl) (by kernel_rfl) rfl
        have hK := hK _ X hS (Reg.Is.of_val rfl) (fun _ _ _ h => h)
        clear hk
        go_simp
        exact hK
      refine Reg.EachV.plain rfl (fun T X hS hk K hK => ?_) ?_
      · skip
        have g4 : T[4]? = some (.int .i64 (n : Nat)) := hk.val 1 4 (by kernel_rfl) (by kernel_rfl) rfl
        have hK := hK _ X hS (Reg.Is.of_val rfl) (fun _ _ _ h => h)
        clear hk
        go_simp
        exact hK
      refine Reg.EachV.plain rfl (fun T X hS hk K hK => ?_) ?_
      · skip
        have g5 : T[5]? = some (.bool true) := hk.val 2 5 (by kernel_rfl) (by kernel_rfl) rfl
        have hK := hK _ X hS (Reg.Is.of_val rfl) (fun _ _ _ h => h)
        clear hk
        go_simp
        exact hK
      refine Reg.EachV.guarded 3 6 true rfl (by kernel_rfl) (by kernel_rfl) rfl (fun T X hS hk K hK => ?_) ?_
      · skip
        have g0 : T[0]? = some (.slice (some ⟨g, 0, none⟩) n capv) := hk.old 0 (by kernel_rfl) rfl
        have hK := hK _ X hS (Reg.Is.of_val rfl) (fun _ _ _ h => h)
        clear hk
        go_simp
        exact hK
      refine Reg.EachV.guarded 3 6 true rfl (by kernel_rfl) (by kernel_rfl) rfl (fun T X hS hk K hK => ?_) ?_
      · skip
        have g7 : T[7]? = some (.slice (some ⟨g, 0, none⟩) n capv) := hk.val 4 7 (by kernel_rfl) (by kernel_rfl) rfl
        have hK := hK _ X hS (Reg.Is.of_val rfl) (fun _ _ _ h => h)
        clear hk
        go_simp
        exact hK
      refine Reg.EachV.guarded 3 6 true rfl (by kernel_rfl) (by kernel_rfl) rfl (fun T X hS hk K hK => ?_) ?_
      · skip
        have g8 : T[8]? = some (.pointer (some ⟨g, 0, none⟩)) := hk.val 5 8 (by kernel_rfl) (by kernel_rfl) rfl
        have hrx := hS.row
        rw [← HN.out] at hrx
        have p0 := piece_at hrx (k := 0) (x := x) rfl 0 (by decide) _ rfl
        have p1 := piece_at hrx (k := 0) (x := x) rfl 1 (by decide) _ rfl
        have p2 := piece_at hrx (k := 0) (x := x) rfl 2 (by decide) _ rfl
        have p3 := piece_at hrx (k := 0) (x := x) rfl 3 (by decide) _ rfl
        have p4 := piece_at hrx (k := 0) (x := x) rfl 4 (by decide) _ rfl
        rw [Nat.zero_mul, Nat.zero_add] at p0
        have pz := World.block_lt_of_cell? _ _ p0
        clear hrx
        have hK := hK _ X hS (Reg.Is.of_val rfl) (fun _ _ _ h => h)
        clear hk
        go_simp
        exact hK
      refine Reg.EachV.guarded 3 6 true rfl (by kernel_rfl) (by kernel_rfl) rfl (fun T X hS hk K hK => ?_) ?_
      · skip
        clear hk
        go_simp
        refine (HOF.out X).mono ?_
        rintro e w1 ⟨rfl, hb⟩
        exact hK _ _ (hS.nxt hb) (Reg.Is.of_val rfl) (fun _ _ _ h => h)
      refine Reg.EachV.guarded 3 6 true rfl (by kernel_rfl) (by kernel_rfl) rfl (fun T X hS hk K hK => ?_) ?_
      · skip
        have g10 : T[10]? = some (.agg #[.int .u64 (sw (mem [46]) 0 : Nat), .int .u64 (sw (mem [46]) 1 : Nat), .int .u64 (sw (mem [46]) 2 : Nat), .int .u64 (sw (mem [46]) 3 : Nat)]) := hk.val 7 10 (by kernel_rfl) (by kernel_rfl) rfl
        have hK := hK _ X hS (Reg.Is.of_val rfl) (fun _ _ _ h => h)
        clear hk
        go_simp
        exact hK
      refine Reg.EachV.guarded 3 6 true rfl (by kernel_rfl) (by kernel_rfl) rfl (fun T X hS hk K hK => ?_) ?_
      · skip
        have g9 : T[9]? = some (.agg #[.int .i64 x.kind, .int .u64 (sw x.set 0 : Nat), .int .u64 (sw x.set 1 : Nat), .int .u64 (sw x.set 2 : Nat), .int .u64 (sw x.set 3 : Nat)]) := hk.val 6 9 (by kernel_rfl) (by kernel_rfl) rfl
        have g11 : T[11]? = some (.agg #[.int .i64 1, .int .u64 (sw (mem [46]) 0 : Nat), .int .u64 (sw (mem [46]) 1 : Nat), .int .u64 (sw (mem [46]) 2 : Nat), .int .u64 (sw (mem [46]) 3 : Nat)]) := hk.val 8 11 (by kernel_rfl) (by kernel_rfl) rfl
        have q2 := HEQ.out
        have hK := hK _ X hS (Reg.Is.of_val rfl) (fun _ _ _ h => h)
        clear hk
        go_simp
        exact hK
      refine Reg.EachV.plain rfl (fun T X hS hk K hK => ?_) ?_
      · skip
        have g6 : T[6]? = some (.bool true) := hk.val 3 6 (by kernel_rfl) (by kernel_rfl) rfl
        have g12 : T[12]? = some (.bool dt) := hk.val 9 12 (by kernel_rfl) (by kernel_rfl) rfl
        have hK := hK _ X hS (Reg.Is.of_val rfl) (fun _ _ _ h => h)
        clear hk
        go_simp
        exact hK
      refine Reg.EachV.plain rfl (fun T X hS hk K hK => ?_) ?_
      · skip
        have g13 : T[13]? = some (.bool dt) := hk.val 10 13 (by kernel_rfl) (by kernel_rfl) rfl
        have hK := hK _ X hS (Reg.Is.of_val rfl) (fun _ _ _ h => h)
        clear hk
        go_simp
        exact hK
      exact Reg.EachV.nil
    case rsZ =>
      intro u w1 hS hI
      have e0 : u 0 = .slice (some ⟨g, 0, none⟩) n capv := (hI 0 (by decide)).val rfl
      have e1 : u 1 = .int .i64 (n : Nat) := (hI 1 (by decide)).val rfl
      have e2 : u 2 = .bool true := (hI 2 (by decide)).val rfl
      have e3 : u 3 = .bool true := (hI 3 (by decide)).val rfl
      have e4 : u 4 = .slice (some ⟨g, 0, none⟩) n capv := (hI 4 (by decide)).val rfl
      have e5 : u 5 = .pointer (some ⟨g, 0, none⟩) := (hI 5 (by decide)).val rfl
      have e6 : u 6 = .agg #[.int .i64 x.kind, .int .u64 (sw x.set 0 : Nat), .int .u64 (sw x.set 1 : Nat), .int .u64 (sw x.set 2 : Nat), .int .u64 (sw x.set 3 : Nat)] := (hI 6 (by decide)).val rfl
      have e7 : u 7 = .agg #[.int .u64 (sw (mem [46]) 0 : Nat), .int .u64 (sw (mem [46]) 1 : Nat), .int .u64 (sw (mem [46]) 2 : Nat), .int .u64 (sw (mem [46]) 3 : Nat)] := (hI 7 (by decide)).val rfl
      have e8 : u 8 = .agg #[.int .i64 1, .int .u64 (sw (mem [46]) 0 : Nat), .int .u64 (sw (mem [46]) 1 : Nat), .int .u64 (sw (mem [46]) 2 : Nat), .int .u64 (sw (mem [46]) 3 : Nat)] := (hI 8 (by decide)).val rfl
      have e9 : u 9 = .bool dt := (hI 9 (by decide)).val rfl
      have e10 : u 10 = .bool dt := (hI 10 (by decide)).val rfl
      have e11 : u 11 = .bool dt := (hI 11 (by decide)).val rfl
      clear hI
      simp only [Reg.putAll, Act.put, List.setIfInBounds_toArray, List.set_cons_succ, List.set_cons_zero, Nat.zero_add, Nat.reduceAdd, e0, e1, e2, e3, e4, e5, e6, e7, e8, e9, e10, e11]
      clear e0 e1 e2 e3 e4 e5 e6 e7 e8 e9 e10 e11
      have HZ := Lib.hid hS.bel
      clear hS
      go_wp2
      go_ret
      exact ⟨rfl, HZ.out⟩
end Go.Proofs.YtoodpajbefffhaaDoor
