/- The contract of the reference's Select (gen_rsel.py). -/
import Derived.Test.YtoodpajbefffhaaDoorSlcU
import Derived.Test.YtoodpajbefffhaaDoorKRn
import Derived.Test.YtoodpajbefffhaaDoorKRpa
namespace Go.Proofs.YtoodpajbefffhaaDoor
open Go.RowKit

theorem putAll_snoc (x : List UInt8) : ∀ (F l : List (List UInt8)), putAll l (F ++ [x]) = putL x (putAll l F)
  | [], _ => rfl
  | y :: r, l => putAll_snoc x r (putL y l)
theorem putL_len (x : List UInt8) : ∀ (l : List (List UInt8)), (putL x l).length ≤ l.length + 1
  | [] => Nat.le_refl _
  | z :: r => by
    have ih := putL_len x r
    unfold putL
    split
    · simp only [List.length_cons]; omega
    · split
      · omega
      · simp
theorem putAll_len : ∀ (F l : List (List UInt8)), (putAll l F).length ≤ l.length + F.length
  | [], l => Nat.le_refl _
  | y :: r, l => by
    have h1 := putL_len y l
    have h2 := putAll_len r (putL y l)
    show (putAll (putL y l) r).length ≤ _
    rw [List.length_cons]; omega
structure RsI (w : World) (B : Nat) (ps : List Pc) (vp : Value) (F : List (List UInt8)) (v : Value) (X : World) : Prop where
  bel : Below w.heap.size w X
  row : X.ownsRow B 41 5 vp ps.length (cellsL ps)
  own : X.ownsRow w.heap.size 9 1 v (putAll [] F).length ((putAll [] F).map nmV)
theorem RsI.nxt {w : World} {B : Nat} {ps : List Pc} {vp : Value} {F : List (List UInt8)} {v : Value} {X X' : World} (h : RsI w B ps vp F v X) (hb : Below X.heap.size X X') : RsI w B ps vp F v X' :=
  ⟨below_thn h.bel (Nat.le_refl _) hb, own_drop h.row hb, own_drop h.own hb⟩

set_option maxRecDepth 100000 in
set_option maxHeartbeats 16000000 in
theorem rsel_any (ps : List Pc) (L : List (List UInt8)) (vp nv : Value) (B : Nat) (w : World) (hrow : w.ownsRow B 41 5 vp ps.length (cellsL ps)) (hl : ps.length ≤ 1048576) (hn : Ss w nv L) (hL : L.length ≤ 40) (h60 : ∀ x ∈ L, x.length ≤ 60) :
    Calls Tryd.prog 9 #[vp, nv] w fun e w' => ∃ v, e = .returned v ∧ w'.ownsRow w.heap.size 9 1 v (putAll [] (L.filter (selB ps))).length ((putAll [] (L.filter (selB ps))).map nmV) ∧ Below w.heap.size w w' := by
  obtain ⟨va, vc, rfl⟩ := own_shapeK hrow
  obtain ⟨na, nc, rfl⟩ := hn.shp
  have HNS := Lib.hid hn
  have HIM := Lib.hid (fun (s : List Int) (sv : Value) (X : World) (hs : Sl X sv s) (hs6 : s.length ≤ 60) (hr : X.ownsRow B 41 5 (.slice va ps.length vc) ps.length (cellsL ps)) => rmatch_any s ps sv _ B X hs (by omega) hr hl)
  have HPT := Lib.hid (fun (F : List (List UInt8)) (x : List UInt8) (v : Value) (X : World) (ho : X.ownsRow w.heap.size 9 1 v (putAll [] F).length ((putAll [] F).map nmV)) (hX : w.heap.size ≤ X.heap.size) (hF : F.length ≤ 40) => rput_any (putAll [] F) x v w.heap.size X ho hX (by have := putAll_len F []; simp at this; omega))
  have H60 := Lib.hid h60
  have HI0 : Hid (RsI w B ps (.slice va ps.length vc) ((L.take 0).filter (selB ps)) (.slice none 0 0) w) := Lib.hid ⟨Below.refl _ _, hrow, World.ownsRow_nil _ _ _ _⟩
  have HAD : Hid (∀ X, Calls Tryd.prog 12 #[.agg #[.int .u64 0, .int .u64 0, .int .u64 0, .int .u64 0], .int .u8 46] X fun e w' => e = .returned (.agg #[.int .u64 (sw (mem [46]) 0 : Nat), .int .u64 (sw (mem [46]) 1 : Nat), .int .u64 (sw (mem [46]) 2 : Nat), .int .u64 (sw (mem [46]) 3 : Nat)]) ∧ Below X.heap.size X w') := Lib.hid fun X => radd_zero 46 (by decide) (by decide) X
  obtain ⟨n, hn'⟩ : ∃ n, n = L.length := ⟨_, rfl⟩
  have HN := Lib.hid hn'
  rw [← hn'] at hL HNS ⊢
  obtain ⟨pl, hpl⟩ : ∃ pl, pl = ps.length := ⟨_, rfl⟩
  have HPLn := Lib.hid hpl
  obtain ⟨dt, hdt⟩ : ∃ dt, dt = dotB ps := ⟨_, rfl⟩
  have HDD := Lib.hid hdt
  have HROW := Lib.hid hrow
  rw [← hpl] at HIM HI0 HROW ⊢
  clear hrow hn h60 hn' hpl hdt hl
  go_enter Tryd.func9, Tryd.ntmps9
  go_upto_region 2 with fail
  go_cut [5, 6] (fun s5 s6 X => s5 = .slice none 0 0 ∧ s6 = .bool dt ∧ Hid (RsI w B ps (.slice va pl vc) ((L.take 0).filter (selB ps)) (.slice none 0 0) X))
  case first =>
    rcases ps with _ | ⟨x, r⟩
    · obtain rfl : pl = 0 := HPLn.out
      obtain rfl : dt = false := HDD.out
      refine Reg.wp_region_vals (fun X => RsI w B [] (.slice va 0 vc) ((L.take 0).filter (selB [])) (.slice none 0 0) X) (fun j => ([some (.slice va 0 vc), some (.int .i64 0), some (.bool false), some (.bool false), some undef, some undef, some undef, some undef, some undef, some (.bool false), some (.bool false), some undef, some undef, some undef, some undef, some undef, some undef, some undef, some (.bool false), some (.bool false)] : List (Option Value)).getD j none) (fun _ _ _ => True) (by kernel_rfl) (by kernel_rfl) (by kernel_rfl) (by kernel_rfl) ?rs0 ?rsE ?rsZ
      case rs0 => exact HI0.out.nxt (Below.refl _ _).drew
      case rsE =>
        refine Reg.EachV.plain rfl (fun T X hS hk K hK => ?_) ?_
        · skip
          have g0 : T[0]? = some (.slice va 0 vc) := hk.old 0 (by kernel_rfl) rfl
          have hK := hK _ X hS (Reg.Is.of_val rfl) (fun _ _ _ h => h)
          clear hk
          go_simp
          exact hK
        refine Reg.EachV.plain rfl (fun T X hS hk K hK => ?_) ?_
        · skip
          have g9 : T[9]? = some (.slice va 0 vc) := hk.val 0 9 (by kernel_rfl) (by kernel_rfl) rfl
          have hK := hK _ X hS (Reg.Is.of_val rfl) (fun _ _ _ h => h)
          clear hk
          go_simp
          exact hK
        refine Reg.EachV.plain rfl (fun T X hS hk K hK => ?_) ?_
        · skip
          have g10 : T[10]? = some (.int .i64 0) := hk.val 1 10 (by kernel_rfl) (by kernel_rfl) rfl
          have hK := hK _ X hS (Reg.Is.of_val rfl) (fun _ _ _ h => h)
          clear hk
          go_simp
          exact hK
        refine Reg.EachV.plain rfl (fun T X hS hk K hK => ?_) ?_
        · skip
          have g11 : T[11]? = some (.bool false) := hk.val 2 11 (by kernel_rfl) (by kernel_rfl) rfl
          have hK := hK _ X hS (Reg.Is.of_val rfl) (fun _ _ _ h => h)
          clear hk
          go_simp
          exact hK
        refine Reg.EachV.passed 3 12 false rfl (by kernel_rfl) (by kernel_rfl) rfl rfl ?_
        refine Reg.EachV.passed 3 12 false rfl (by kernel_rfl) (by kernel_rfl) rfl rfl ?_
        refine Reg.EachV.passed 3 12 false rfl (by kernel_rfl) (by kernel_rfl) rfl rfl ?_
        refine Reg.EachV.passed 3 12 false rfl (by kernel_rfl) (by kernel_rfl) rfl rfl ?_
        refine Reg.EachV.passed 3 12 false rfl (by kernel_rfl) (by kernel_rfl) rfl rfl ?_
        refine Reg.EachV.plain rfl (fun T X hS hk K hK => ?_) ?_
        · skip
          have g12 : T[12]? = some (.bool false) := hk.val 3 12 (by kernel_rfl) (by kernel_rfl) rfl
          have g17 : T[17]? = some (undef) := hk.val 8 17 (by kernel_rfl) (by kernel_rfl) rfl
          have hK := hK _ X hS (Reg.Is.of_val rfl) (fun _ _ _ h => h)
          clear hk
          go_simp
          exact hK
        refine Reg.EachV.plain rfl (fun T X hS hk K hK => ?_) ?_
        · skip
          have g18 : T[18]? = some (.bool false) := hk.val 9 18 (by kernel_rfl) (by kernel_rfl) rfl
          have hK := hK _ X hS (Reg.Is.of_val rfl) (fun _ _ _ h => h)
          clear hk
          go_simp
          exact hK
        refine Reg.EachV.passed 10 19 false rfl (by kernel_rfl) (by kernel_rfl) rfl rfl ?_
        refine Reg.EachV.passed 10 19 false rfl (by kernel_rfl) (by kernel_rfl) rfl rfl ?_
        refine Reg.EachV.passed 10 19 false rfl (by kernel_rfl) (by kernel_rfl) rfl rfl ?_
        refine Reg.EachV.passed 10 19 false rfl (by kernel_rfl) (by kernel_rfl) rfl rfl ?_
        refine Reg.EachV.passed 10 19 false rfl (by kernel_rfl) (by kernel_rfl) rfl rfl ?_
        refine Reg.EachV.passed 10 19 false rfl (by kernel_rfl) (by kernel_rfl) rfl rfl ?_
        refine Reg.EachV.passed 10 19 false rfl (by kernel_rfl) (by kernel_rfl) rfl rfl ?_
        refine Reg.EachV.plain rfl (fun T X hS hk K hK => ?_) ?_
        · skip
          have g19 : T[19]? = some (.bool false) := hk.val 10 19 (by kernel_rfl) (by kernel_rfl) rfl
          have g26 : T[26]? = some (undef) := hk.val 17 26 (by kernel_rfl) (by kernel_rfl) rfl
          have hK := hK _ X hS (Reg.Is.of_val rfl) (fun _ _ _ h => h)
          clear hk
          go_simp
          exact hK
        refine Reg.EachV.plain rfl (fun T X hS hk K hK => ?_) ?_
        · skip
          have g27 : T[27]? = some (.bool false) := hk.val 18 27 (by kernel_rfl) (by kernel_rfl) rfl
          have hK := hK _ X hS (Reg.Is.of_val rfl) (fun _ _ _ h => h)
          clear hk
          go_simp
          exact hK
        exact Reg.EachV.nil
      case rsZ =>
        intro u w1 hS hI
        have e0 : u 0 = .slice va 0 vc := (hI 0 (by decide)).val rfl
        have e1 : u 1 = .int .i64 0 := (hI 1 (by decide)).val rfl
        have e2 : u 2 = .bool false := (hI 2 (by decide)).val rfl
        have e3 : u 3 = .bool false := (hI 3 (by decide)).val rfl
        have e4 : u 4 = undef := (hI 4 (by decide)).val rfl
        have e5 : u 5 = undef := (hI 5 (by decide)).val rfl
        have e6 : u 6 = undef := (hI 6 (by decide)).val rfl
        have e7 : u 7 = undef := (hI 7 (by decide)).val rfl
        have e8 : u 8 = undef := (hI 8 (by decide)).val rfl
        have e9 : u 9 = .bool false := (hI 9 (by decide)).val rfl
        have e10 : u 10 = .bool false := (hI 10 (by decide)).val rfl
        have e11 : u 11 = undef := (hI 11 (by decide)).val rfl
        have e12 : u 12 = undef := (hI 12 (by decide)).val rfl
        have e13 : u 13 = undef := (hI 13 (by decide)).val rfl
        have e14 : u 14 = undef := (hI 14 (by decide)).val rfl
        have e15 : u 15 = undef := (hI 15 (by decide)).val rfl
        have e16 : u 16 = undef := (hI 16 (by decide)).val rfl
        have e17 : u 17 = undef := (hI 17 (by decide)).val rfl
        have e18 : u 18 = .bool false := (hI 18 (by decide)).val rfl
        have e19 : u 19 = .bool false := (hI 19 (by decide)).val rfl
        clear hI
        simp only [Reg.putAll, Act.put, List.setIfInBounds_toArray, List.set_cons_succ, List.set_cons_zero, Nat.zero_add, Nat.reduceAdd, e0, e1, e2, e3, e4, e5, e6, e7, e8, e9, e10, e11, e12, e13, e14, e15, e16, e17, e18, e19]
        clear e0 e1 e2 e3 e4 e5 e6 e7 e8 e9 e10 e11 e12 e13 e14 e15 e16 e17 e18 e19
        have HZ := Lib.hid hS
        clear hS
        go_wp2_with fail
        all_goals (go_meet; exact ⟨rfl, rfl, HZ⟩)
    · obtain ⟨g, rfl⟩ : ∃ g, va = some ⟨g, 0, none⟩ := by
        rcases HROW.out.2 with ⟨_, h0⟩ | ⟨g, cap', cur, e, _⟩
        · rw [HPLn.out] at h0; simp at h0
        · simp only [Value.slice.injEq] at e
          exact ⟨g, e.1⟩
      have hp0 : 0 < pl := by rw [HPLn.out]; simp
      have hpI : decide ((0 : Int) < (pl : Int)) = true := by simp; omega
      have hpJ : (0 : Int) < (pl : Int) := by omega
      by_cases hk1 : x.kind = 1
      · have e1 : (x.kind == 1) = true := by simpa using hk1
        have HEQ := Lib.hid (eq_arr 9998 (sw x.set 0 : Nat) (sw x.set 1 : Nat) (sw x.set 2 : Nat) (sw x.set 3 : Nat) (sw (mem [46]) 0 : Nat) (sw (mem [46]) 1 : Nat) (sw (mem [46]) 2 : Nat) (sw (mem [46]) 3 : Nat))
        have HWE : Hid (((((sw x.set 0 : Nat) : Int) == (sw (mem [46]) 0 : Nat)) && ((((sw x.set 1 : Nat) : Int) == (sw (mem [46]) 1 : Nat)) && ((((sw x.set 2 : Nat) : Int) == (sw (mem [46]) 2 : Nat)) && (((sw x.set 3 : Nat) : Int) == (sw (mem [46]) 3 : Nat))))) = dt) := Lib.hid (by rw [HDD.out]; show _ = (x.kind == 1 && wEq x.set (mem [46])); rw [e1, Bool.true_and]; rfl)
        rw [HWE.out] at HEQ
        have HE1 := Lib.hid e1
        clear hk1 e1
        refine Reg.wp_region_vals (fun X => RsI w B (x :: r) (.slice (some ⟨g, 0, none⟩) pl vc) ((L.take 0).filter (selB (x :: r))) (.slice none 0 0) X) (fun j => ([some (.slice (some ⟨g, 0, none⟩) pl vc), some (.int .i64 (pl : Nat)), some (.bool true), some (.bool true), some (.slice (some ⟨g, 0, none⟩) pl vc), some (.pointer (some ⟨g, 0, none⟩)), some (.pointer (some ⟨g, 0, none⟩)), some (.int .i64 x.kind), some (.bool true), some (.bool true), some (.bool true), some (.slice (some ⟨g, 0, none⟩) pl vc), some (.pointer (some ⟨g, 0, none⟩)), some (.pointer (some ⟨g, 1, none⟩)), some (.agg #[.int .u64 (sw x.set 0 : Nat), .int .u64 (sw x.set 1 : Nat), .int .u64 (sw x.set 2 : Nat), .int .u64 (sw x.set 3 : Nat)]), some (.agg #[.int .u64 0, .int .u64 0, .int .u64 0, .int .u64 0]), some (.agg #[.int .u64 (sw (mem [46]) 0 : Nat), .int .u64 (sw (mem [46]) 1 : Nat), .int .u64 (sw (mem [46]) 2 : Nat), .int .u64 (sw (mem [46]) 3 : Nat)]), some (.bool dt), some (.bool dt), some (.bool dt)] : List (Option Value)).getD j none) (fun _ _ _ => True) (by kernel_rfl) (by kernel_rfl) (by kernel_rfl) (by kernel_rfl) ?rs0 ?rsE ?rsZ
        case rs0 => exact HI0.out.nxt (Below.refl _ _).drew
        case rsE =>
          refine Reg.EachV.plain rfl (fun T X hS hk K hK => ?_) ?_
          · skip
            have g0 : T[0]? = some (.slice (some ⟨g, 0, none⟩) pl vc) := hk.old 0 (by kernel_rfl) rfl
            have hK := hK _ X hS (Reg.Is.of_val rfl) (fun _ _ _ h => h)
            clear hk
            go_simp
            exact hK
          refine Reg.EachV.plain rfl (fun T X hS hk K hK => ?_) ?_
          · skip
            have g9 : T[9]? = some (.slice (some ⟨g, 0, none⟩) pl vc) := hk.val 0 9 (by kernel_rfl) (by kernel_rfl) rfl
            have hK := hK _ X hS (Reg.Is.of_val rfl) (fun _ _ _ h => h)
            clear hk
            go_simp
            exact hK
          refine Reg.EachV.plain rfl (fun T X hS hk K hK => ?_) ?_
          · skip
            have g10 : T[10]? = some (.int .i64 (pl : Nat)) := hk.val 1 10 (by kernel_rfl) (by kernel_rfl) rfl
            have hK := hK _ X hS (Reg.Is.of_val rfl) (fun _ _ _ h => h)
            clear hk
            go_simp
            exact hK
          refine Reg.EachV.plain rfl (fun T X hS hk K hK => ?_) ?_
          · skip
            have g11 : T[11]? = some (.bool true) := hk.val 2 11 (by kernel_rfl) (by kernel_rfl) rfl
            have hK := hK _ X hS (Reg.Is.of_val rfl) (fun _ _ _ h => h)
            clear hk
            go_simp
            exact hK
          refine Reg.EachV.guarded 3 12 true rfl (by kernel_rfl) (by kernel_rfl) rfl (fun T X hS hk K hK => ?_) ?_
          · skip
            have g0 : T[0]? = some (.slice (some ⟨g, 0, none⟩) pl vc) := hk.old 0 (by kernel_rfl) rfl
            have hK := hK _ X hS (Reg.Is.of_val rfl) (fun _ _ _ h => h)
            clear hk
            go_simp
            exact hK
          refine Reg.EachV.guarded 3 12 true rfl (by kernel_rfl) (by kernel_rfl) rfl (fun T X hS hk K hK => ?_) ?_
          · skip
            have g13 : T[13]? = some (.slice (some ⟨g, 0, none⟩) pl vc) := hk.val 4 13 (by kernel_rfl) (by kernel_rfl) rfl
            have hK := hK _ X hS (Reg.Is.of_val rfl) (fun _ _ _ h => h)
            clear hk
            go_simp
            exact hK
          refine Reg.EachV.guarded 3 12 true rfl (by kernel_rfl) (by kernel_rfl) rfl (fun T X hS hk K hK => ?_) ?_
          · skip
            have g14 : T[14]? = some (.pointer (some ⟨g, 0, none⟩)) := hk.val 5 14 (by kernel_rfl) (by kernel_rfl) rfl
            have hK := hK _ X hS (Reg.Is.of_val rfl) (fun _ _ _ h => h)
            clear hk
            go_simp
            exact hK
          refine Reg.EachV.guarded 3 12 true rfl (by kernel_rfl) (by kernel_rfl) rfl (fun T X hS hk K hK => ?_) ?_
          · skip
            have g15 : T[15]? = some (.pointer (some ⟨g, 0, none⟩)) := hk.val 6 15 (by kernel_rfl) (by kernel_rfl) rfl
            have hrx := hS.row
            rw [← HPLn.out] at hrx
            have p0 := piece_at hrx (k := 0) (x := x) rfl 0 (by decide) _ rfl
            have p1 := piece_at hrx (k := 0) (x := x) rfl 1 (by decide) _ rfl
            have p2 := piece_at hrx (k := 0) (x := x) rfl 2 (by decide) _ rfl
            have p3 := piece_at hrx (k := 0) (x := x) rfl 3 (by decide) _ rfl
            have p4 := piece_at hrx (k := 0) (x := x) rfl 4 (by decide) _ rfl
            rw [Nat.zero_mul, Nat.zero_add] at p0
            have pz := World.block_lt_of_cell? _ _ p0
            clear hrx
            have hK := hK _ X hS (Reg.Is.of_val rfl) (fun _ _ _ h => h)
            clear hk
            go_simp
            exact hK
          refine Reg.EachV.guarded 3 12 true rfl (by kernel_rfl) (by kernel_rfl) rfl (fun T X hS hk K hK => ?_) ?_
          · skip
            have g16 : T[16]? = some (.int .i64 x.kind) := hk.val 7 16 (by kernel_rfl) (by kernel_rfl) rfl
            have e1 := HE1.out
            have hK := hK _ X hS (Reg.Is.of_val rfl) (fun _ _ _ h => h)
            clear hk
            go_simp
            exact hK
          refine Reg.EachV.plain rfl (fun T X hS hk K hK => ?_) ?_
          · skip
            have g12 : T[12]? = some (.bool true) := hk.val 3 12 (by kernel_rfl) (by kernel_rfl) rfl
            have g17 : T[17]? = some (.bool true) := hk.val 8 17 (by kernel_rfl) (by kernel_rfl) rfl
            have hK := hK _ X hS (Reg.Is.of_val rfl) (fun _ _ _ h => h)
            clear hk
            go_simp
            exact hK
          refine Reg.EachV.plain rfl (fun T X hS hk K hK => ?_) ?_
          · skip
            have g18 : T[18]? = some (.bool true) := hk.val 9 18 (by kernel_rfl) (by kernel_rfl) rfl
            have hK := hK _ X hS (Reg.Is.of_val rfl) (fun _ _ _ h => h)
            clear hk
            go_simp
            exact hK
          refine Reg.EachV.guarded 10 19 true rfl (by kernel_rfl) (by kernel_rfl) rfl (fun T X hS hk K hK => ?_) ?_
          · skip
            have g0 : T[0]? = some (.slice (some ⟨g, 0, none⟩) pl vc) := hk.old 0 (by kernel_rfl) rfl
            have hK := hK _ X hS (Reg.Is.of_val rfl) (fun _ _ _ h => h)
            clear hk
            go_simp
            exact hK
          refine Reg.EachV.guarded 10 19 true rfl (by kernel_rfl) (by kernel_rfl) rfl (fun T X hS hk K hK => ?_) ?_
          · skip
            have g20 : T[20]? = some (.slice (some ⟨g, 0, none⟩) pl vc) := hk.val 11 20 (by kernel_rfl) (by kernel_rfl) rfl
            have hK := hK _ X hS (Reg.Is.of_val rfl) (fun _ _ _ h => h)
            clear hk
            go_simp
            exact hK
          refine Reg.EachV.guarded 10 19 true rfl (by kernel_rfl) (by kernel_rfl) rfl (fun T X hS hk K hK => ?_) ?_
          · skip
            have g21 : T[21]? = some (.pointer (some ⟨g, 0, none⟩)) := hk.val 12 21 (by kernel_rfl) (by kernel_rfl) rfl
            have hK := hK _ X hS (Reg.Is.of_val rfl) (fun _ _ _ h => h)
            clear hk
            go_simp
            exact hK
          refine Reg.EachV.guarded 10 19 true rfl (by kernel_rfl) (by kernel_rfl) rfl (fun T X hS hk K hK => ?_) ?_
          · skip
            have g22 : T[22]? = some (.pointer (some ⟨g, 1, none⟩)) := hk.val 13 22 (by kernel_rfl) (by kernel_rfl) rfl
            have hrx := hS.row
            rw [← HPLn.out] at hrx
            have p0 := piece_at hrx (k := 0) (x := x) rfl 0 (by decide) _ rfl
            have p1 := piece_at hrx (k := 0) (x := x) rfl 1 (by decide) _ rfl
            have p2 := piece_at hrx (k := 0) (x := x) rfl 2 (by decide) _ rfl
            have p3 := piece_at hrx (k := 0) (x := x) rfl 3 (by decide) _ rfl
            have p4 := piece_at hrx (k := 0) (x := x) rfl 4 (by decide) _ rfl
            rw [Nat.zero_mul, Nat.zero_add] at p0
            have pz := World.block_lt_of_cell? _ _ p0
            clear hrx
            have hK := hK _ X hS (Reg.Is.of_val rfl) (fun _ _ _ h => h)
            clear hk
            go_simp
            exact hK
          refine Reg.EachV.guarded 10 19 true rfl (by kernel_rfl) (by kernel_rfl) rfl (fun T X hS hk K hK => ?_) ?_
          · skip
            have hK := hK _ X hS (Reg.Is.of_val rfl) (fun _ _ _ h => h)
            clear hk
            go_simp
            exact hK
          refine Reg.EachV.guarded 10 19 true rfl (by kernel_rfl) (by kernel_rfl) rfl (fun T X hS hk K hK => ?_) ?_
          · skip
            have g24 : T[24]? = some (.agg #[.int .u64 0, .int .u64 0, .int .u64 0, .int .u64 0]) := hk.val 15 24 (by kernel_rfl) (by kernel_rfl) rfl
            clear hk
            go_simp
            refine (HAD.out X).mono ?_
            rintro e w1 ⟨rfl, hb⟩
            exact hK _ _ (hS.nxt hb) (Reg.Is.of_val rfl) (fun _ _ _ h => h)
          refine Reg.EachV.guarded 10 19 true rfl (by kernel_rfl) (by kernel_rfl) rfl (fun T X hS hk K hK => ?_) ?_
          · skip
            have g23 : T[23]? = some (.agg #[.int .u64 (sw x.set 0 : Nat), .int .u64 (sw x.set 1 : Nat), .int .u64 (sw x.set 2 : Nat), .int .u64 (sw x.set 3 : Nat)]) := hk.val 14 23 (by kernel_rfl) (by kernel_rfl) rfl
            have g25 : T[25]? = some (.agg #[.int .u64 (sw (mem [46]) 0 : Nat), .int .u64 (sw (mem [46]) 1 : Nat), .int .u64 (sw (mem [46]) 2 : Nat), .int .u64 (sw (mem [46]) 3 : Nat)]) := hk.val 16 25 (by kernel_rfl) (by kernel_rfl) rfl
            have q2 := HEQ.out
            have hK := hK _ X hS (Reg.Is.of_val rfl) (fun _ _ _ h => h)
            clear hk
            go_simp
            exact hK
          refine Reg.EachV.plain rfl (fun T X hS hk K hK => ?_) ?_
          · skip
            have g19 : T[19]? = some (.bool true) := hk.val 10 19 (by kernel_rfl) (by kernel_rfl) rfl
            have g26 : T[26]? = some (.bool dt) := hk.val 17 26 (by kernel_rfl) (by kernel_rfl) rfl
            have hK := hK _ X hS (Reg.Is.of_val rfl) (fun _ _ _ h => h)
            clear hk
            go_simp
            exact hK
          refine Reg.EachV.plain rfl (fun T X hS hk K hK => ?_) ?_
          · skip
            have g27 : T[27]? = some (.bool dt) := hk.val 18 27 (by kernel_rfl) (by kernel_rfl) rfl
            have hK := hK _ X hS (Reg.Is.of_val rfl) (fun _ _ _ h => h)
            clear hk
            go_simp
            exact hK
          exact Reg.EachV.nil
        case rsZ =>
          intro u w1 hS hI
          have e0 : u 0 = .slice (some ⟨g, 0, none⟩) pl vc := (hI 0 (by decide)).val rfl
          have e1 : u 1 = .int .i64 (pl : Nat) := (hI 1 (by decide)).val rfl
          have e2 : u 2 = .bool true := (hI 2 (by decide)).val rfl
          have e3 : u 3 = .bool true := (hI 3 (by decide)).val rfl
          have e4 : u 4 = .slice (some ⟨g, 0, none⟩) pl vc := (hI 4 (by decide)).val rfl
          have e5 : u 5 = .pointer (some ⟨g, 0, none⟩) := (hI 5 (by decide)).val rfl
          have e6 : u 6 = .pointer (some ⟨g, 0, none⟩) := (hI 6 (by decide)).val rfl
          have e7 : u 7 = .int .i64 x.kind := (hI 7 (by decide)).val rfl
          have e8 : u 8 = .bool true := (hI 8 (by decide)).val rfl
          have e9 : u 9 = .bool true := (hI 9 (by decide)).val rfl
          have e10 : u 10 = .bool true := (hI 10 (by decide)).val rfl
          have e11 : u 11 = .slice (some ⟨g, 0, none⟩) pl vc := (hI 11 (by decide)).val rfl
          have e12 : u 12 = .pointer (some ⟨g, 0, none⟩) := (hI 12 (by decide)).val rfl
          have e13 : u 13 = .pointer (some ⟨g, 1, none⟩) := (hI 13 (by decide)).val rfl
          have e14 : u 14 = .agg #[.int .u64 (sw x.set 0 : Nat), .int .u64 (sw x.set 1 : Nat), .int .u64 (sw x.set 2 : Nat), .int .u64 (sw x.set 3 : Nat)] := (hI 14 (by decide)).val rfl
          have e15 : u 15 = .agg #[.int .u64 0, .int .u64 0, .int .u64 0, .int .u64 0] := (hI 15 (by decide)).val rfl
          have e16 : u 16 = .agg #[.int .u64 (sw (mem [46]) 0 : Nat), .int .u64 (sw (mem [46]) 1 : Nat), .int .u64 (sw (mem [46]) 2 : Nat), .int .u64 (sw (mem [46]) 3 : Nat)] := (hI 16 (by decide)).val rfl
          have e17 : u 17 = .bool dt := (hI 17 (by decide)).val rfl
          have e18 : u 18 = .bool dt := (hI 18 (by decide)).val rfl
          have e19 : u 19 = .bool dt := (hI 19 (by decide)).val rfl
          clear hI
          simp only [Reg.putAll, Act.put, List.setIfInBounds_toArray, List.set_cons_succ, List.set_cons_zero, Nat.zero_add, Nat.reduceAdd, e0, e1, e2, e3, e4, e5, e6, e7, e8, e9, e10, e11, e12, e13, e14, e15, e16, e17, e18, e19]
          clear e0 e1 e2 e3 e4 e5 e6 e7 e8 e9 e10 e11 e12 e13 e14 e15 e16 e17 e18 e19
          have HZ := Lib.hid hS
          clear hS
          go_wp2_with fail
          all_goals (go_meet; exact ⟨rfl, rfl, HZ⟩)
      · have e1 : (x.kind == 1) = false := by simpa using hk1
        obtain rfl : dt = false := by rw [HDD.out]; show (x.kind == 1 && wEq x.set (mem [46])) = false; rw [e1]; rfl
        have HE1 := Lib.hid e1
        clear hk1 e1
        refine Reg.wp_region_vals (fun X => RsI w B (x :: r) (.slice (some ⟨g, 0, none⟩) pl vc) ((L.take 0).filter (selB (x :: r))) (.slice none 0 0) X) (fun j => ([some (.slice (some ⟨g, 0, none⟩) pl vc), some (.int .i64 (pl : Nat)), some (.bool true), some (.bool true), some (.slice (some ⟨g, 0, none⟩) pl vc), some (.pointer (some ⟨g, 0, none⟩)), some (.pointer (some ⟨g, 0, none⟩)), some (.int .i64 x.kind), some (.bool false), some (.bool false), some (.bool false), some undef, some undef, some undef, some undef, some undef, some undef, some undef, some (.bool false), some (.bool false)] : List (Option Value)).getD j none) (fun _ _ _ => True) (by kernel_rfl) (by kernel_rfl) (by kernel_rfl) (by kernel_rfl) ?rs0 ?rsE ?rsZ
        case rs0 => exact HI0.out.nxt (Below.refl _ _).drew
        case rsE =>
          refine Reg.EachV.plain rfl (fun T X hS hk K hK => ?_) ?_
          · skip
            have g0 : T[0]? = some (.slice (some ⟨g, 0, none⟩) pl vc) := hk.old 0 (by kernel_rfl) rfl
            have hK := hK _ X hS (Reg.Is.of_val rfl) (fun _ _ _ h => h)
            clear hk
            go_simp
            exact hK
          refine Reg.EachV.plain rfl (fun T X hS hk K hK => ?_) ?_
          · skip
            have g9 : T[9]? = some (.slice (some ⟨g, 0, none⟩) pl vc) := hk.val 0 9 (by kernel_rfl) (by kernel_rfl) rfl
            have hK := hK _ X hS (Reg.Is.of_val rfl) (fun _ _ _ h => h)
            clear hk
            go_simp
            exact hK
          refine Reg.EachV.plain rfl (fun T X hS hk K hK => ?_) ?_
          · skip
            have g10 : T[10]? = some (.int .i64 (pl : Nat)) := hk.val 1 10 (by kernel_rfl) (by kernel_rfl) rfl
            have hK := hK _ X hS (Reg.Is.of_val rfl) (fun _ _ _ h => h)
            clear hk
            go_simp
            exact hK
          refine Reg.EachV.plain rfl (fun T X hS hk K hK => ?_) ?_
          · skip
            have g11 : T[11]? = some (.bool true) := hk.val 2 11 (by kernel_rfl) (by kernel_rfl) rfl
            have hK := hK _ X hS (Reg.Is.of_val rfl) (fun _ _ _ h => h)
            clear hk
            go_simp
            exact hK
          refine Reg.EachV.guarded 3 12 true rfl (by kernel_rfl) (by kernel_rfl) rfl (fun T X hS hk K hK => ?_) ?_
          · skip
            have g0 : T[0]? = some (.slice (some ⟨g, 0, none⟩) pl vc) := hk.old 0 (by kernel_rfl) rfl
            have hK := hK _ X hS (Reg.Is.of_val rfl) (fun _ _ _ h => h)
            clear hk
            go_simp
            exact hK
          refine Reg.EachV.guarded 3 12 true rfl (by kernel_rfl) (by kernel_rfl) rfl (fun T X hS hk K hK => ?_) ?_
          · skip
            have g13 : T[13]? = some (.slice (some ⟨g, 0, none⟩) pl vc) := hk.val 4 13 (by kernel_rfl) (by kernel_rfl) rfl
            have hK := hK _ X hS (Reg.Is.of_val rfl) (fun _ _ _ h => h)
            clear hk
            go_simp
            exact hK
          refine Reg.EachV.guarded 3 12 true rfl (by kernel_rfl) (by kernel_rfl) rfl (fun T X hS hk K hK => ?_) ?_
          · skip
            have g14 : T[14]? = some (.pointer (some ⟨g, 0, none⟩)) := hk.val 5 14 (by kernel_rfl) (by kernel_rfl) rfl
            have hK := hK _ X hS (Reg.Is.of_val rfl) (fun _ _ _ h => h)
            clear hk
            go_simp
            exact hK
          refine Reg.EachV.guarded 3 12 true rfl (by kernel_rfl) (by kernel_rfl) rfl (fun T X hS hk K hK => ?_) ?_
          · skip
            have g15 : T[15]? = some (.pointer (some ⟨g, 0, none⟩)) := hk.val 6 15 (by kernel_rfl) (by kernel_rfl) rfl
            have hrx := hS.row
            rw [← HPLn.out] at hrx
            have p0 := piece_at hrx (k := 0) (x := x) rfl 0 (by decide) _ rfl
            have p1 := piece_at hrx (k := 0) (x := x) rfl 1 (by decide) _ rfl
            have p2 := piece_at hrx (k := 0) (x := x) rfl 2 (by decide) _ rfl
            have p3 := piece_at hrx (k := 0) (x := x) rfl 3 (by decide) _ rfl
            have p4 := piece_at hrx (k := 0) (x := x) rfl 4 (by decide) _ rfl
            rw [Nat.zero_mul, Nat.zero_add] at p0
            have pz := World.block_lt_of_cell? _ _ p0
            clear hrx
            have hK := hK _ X hS (Reg.Is.of_val rfl) (fun _ _ _ h => h)
            clear hk
            go_simp
            exact hK
          refine Reg.EachV.guarded 3 12 true rfl (by kernel_rfl) (by kernel_rfl) rfl (fun T X hS hk K hK => ?_) ?_
          · skip
            have g16 : T[16]? = some (.int .i64 x.kind) := hk.val 7 16 (by kernel_rfl) (by kernel_rfl) rfl
            have e1 := HE1.out
            have hK := hK _ X hS (Reg.Is.of_val rfl) (fun _ _ _ h => h)
            clear hk
            go_simp
            exact hK
          refine Reg.EachV.plain rfl (fun T X hS hk K hK => ?_) ?_
          · skip
            have g12 : T[12]? = some (.bool true) := hk.val 3 12 (by kernel_rfl) (by kernel_rfl) rfl
            have g17 : T[17]? = some (.bool false) := hk.val 8 17 (by kernel_rfl) (by kernel_rfl) rfl
            have hK := hK _ X hS (Reg.Is.of_val rfl) (fun _ _ _ h => h)
            clear hk
            go_simp
            exact hK
          refine Reg.EachV.plain rfl (fun T X hS hk K hK => ?_) ?_
          · skip
            have g18 : T[18]? = some (.bool false) := hk.val 9 18 (by kernel_rfl) (by kernel_rfl) rfl
            have hK := hK _ X hS (Reg.Is.of_val rfl) (fun _ _ _ h => h)
            clear hk
            go_simp
            exact hK
          refine Reg.EachV.passed 10 19 false rfl (by kernel_rfl) (by kernel_rfl) rfl rfl ?_
          refine Reg.EachV.passed 10 19 false rfl (by kernel_rfl) (by kernel_rfl) rfl rfl ?_
          refine Reg.EachV.passed 10 19 false rfl (by kernel_rfl) (by kernel_rfl) rfl rfl ?_
          refine Reg.EachV.passed 10 19 false rfl (by kernel_rfl) (by kernel_rfl) rfl rfl ?_
          refine Reg.EachV.passed 10 19 false rfl (by kernel_rfl) (by kernel_rfl) rfl rfl ?_
          refine Reg.EachV.passed 10 19 false rfl (by kernel_rfl) (by kernel_rfl) rfl rfl ?_
          refine Reg.EachV.passed 10 19 false rfl (by kernel_rfl) (by kernel_rfl) rfl rfl ?_
          refine Reg.EachV.plain rfl (fun T X hS hk K hK => ?_) ?_
          · skip
            have g19 : T[19]? = some (.bool false) := hk.val 10 19 (by kernel_rfl) (by kernel_rfl) rfl
            have g26 : T[26]? = some (undef) := hk.val 17 26 (by kernel_rfl) (by kernel_rfl) rfl
            have hK := hK _ X hS (Reg.Is.of_val rfl) (fun _ _ _ h => h)
            clear hk
            go_simp
            exact hK
          refine Reg.EachV.plain rfl (fun T X hS hk K hK => ?_) ?_
          · skip
            have g27 : T[27]? = some (.bool false) := hk.val 18 27 (by kernel_rfl) (by kernel_rfl) rfl
            have hK := hK _ X hS (Reg.Is.of_val rfl) (fun _ _ _ h => h)
            clear hk
            go_simp
            exact hK
          exact Reg.EachV.nil
        case rsZ =>
          intro u w1 hS hI
          have e0 : u 0 = .slice (some ⟨g, 0, none⟩) pl vc := (hI 0 (by decide)).val rfl
          have e1 : u 1 = .int .i64 (pl : Nat) := (hI 1 (by decide)).val rfl
          have e2 : u 2 = .bool true := (hI 2 (by decide)).val rfl
          have e3 : u 3 = .bool true := (hI 3 (by decide)).val rfl
          have e4 : u 4 = .slice (some ⟨g, 0, none⟩) pl vc := (hI 4 (by decide)).val rfl
          have e5 : u 5 = .pointer (some ⟨g, 0, none⟩) := (hI 5 (by decide)).val rfl
          have e6 : u 6 = .pointer (some ⟨g, 0, none⟩) := (hI 6 (by decide)).val rfl
          have e7 : u 7 = .int .i64 x.kind := (hI 7 (by decide)).val rfl
          have e8 : u 8 = .bool false := (hI 8 (by decide)).val rfl
          have e9 : u 9 = .bool false := (hI 9 (by decide)).val rfl
          have e10 : u 10 = .bool false := (hI 10 (by decide)).val rfl
          have e11 : u 11 = undef := (hI 11 (by decide)).val rfl
          have e12 : u 12 = undef := (hI 12 (by decide)).val rfl
          have e13 : u 13 = undef := (hI 13 (by decide)).val rfl
          have e14 : u 14 = undef := (hI 14 (by decide)).val rfl
          have e15 : u 15 = undef := (hI 15 (by decide)).val rfl
          have e16 : u 16 = undef := (hI 16 (by decide)).val rfl
          have e17 : u 17 = undef := (hI 17 (by decide)).val rfl
          have e18 : u 18 = .bool false := (hI 18 (by decide)).val rfl
          have e19 : u 19 = .bool false := (hI 19 (by decide)).val rfl
          clear hI
          simp only [Reg.putAll, Act.put, List.setIfInBounds_toArray, List.set_cons_succ, List.set_cons_zero, Nat.zero_add, Nat.reduceAdd, e0, e1, e2, e3, e4, e5, e6, e7, e8, e9, e10, e11, e12, e13, e14, e15, e16, e17, e18, e19]
          clear e0 e1 e2 e3 e4 e5 e6 e7 e8 e9 e10 e11 e12 e13 e14 e15 e16 e17 e18 e19
          have HZ := Lib.hid hS
          clear hS
          go_wp2_with fail
          all_goals (go_meet; exact ⟨rfl, rfl, HZ⟩)
  obtain ⟨rfl, rfl, HI2⟩ := hcut
  go_wp2_with fail
  go_loopw [5, 30] (fun v i X => ∃ k : Nat, i = .int .i64 (k : Nat) ∧ k ≤ n ∧ Hid (RsI w B ps (.slice va pl vc) ((L.take k).filter (selB ps)) v X)) (fun _ i _ => n - (intOf i).toNat)
  case atStart => exact ⟨0, rfl, Nat.zero_le _, HI2⟩
  case round =>
    obtain ⟨k, rfl, hk, HI⟩ := hrel
    have hfl : ((L.take k).filter (selB ps)).length ≤ 40 := Nat.le_trans (List.length_filter_le _ _) (by rw [List.length_take, ← HN.out]; omega)
    by_cases hlt : k < n
    · have hltL : k < L.length := by rw [← HN.out]; exact hlt
      obtain ⟨nb, no, x, rfl, hx, hcell⟩ := (HNS.out.below HI.out.bel).at hltL
      have hx60 : x.length ≤ 60 := H60.out x (List.mem_of_getElem? hx)
      have HTF := Lib.hid (take_filter (selB ps) hx)
      obtain ⟨m, hm⟩ : ∃ m, m = mtc ps (bys ⟨x.toArray⟩) := ⟨_, rfl⟩
      obtain ⟨hpf, hhp⟩ : ∃ hpf, hpf = Lib.hasPrefix x [46] := ⟨_, rfl⟩
      have HSB : Hid (selB ps x = ((dt || !hpf) && m)) := Lib.hid (by unfold selB; rw [HDD.out, hm, hhp])
      unfold nmV at hcell
      obtain ⟨s, hs⟩ : ∃ s, s = (⟨x.toArray⟩ : ByteArray) := ⟨_, rfl⟩
      rw [← hs] at hcell hm
      have HXN : Hid (nmV x = .string s) := Lib.hid (by rw [hs]; rfl)
      have hsz : s.size ≤ 60 := by rw [hs]; exact hx60
      have hkI : (k : Int) < (n : Int) := by omega
      have hcz := World.block_lt_of_cell? _ _ hcell
      have HDOT : Hid ((x = [] ∧ s.toList = [] ∧ hpf = false) ∨ (0 < s.size ∧ ¬ s.toList = [] ∧ ∃ c : Nat, (∀ X, (Instr.index 9 (.string s) (.int .i64 0)).run Tryd.prog X = .ok (.int .u8 (c : Nat)) X) ∧ hpf = decide (c = 46))) := Lib.hid (by
        rw [hs, hhp]
        cases x with
        | nil => exact Or.inl ⟨rfl, by rw [ByteArray.toList_eq], rfl⟩
        | cons c r =>
          have h0 : 0 < (⟨(c :: r).toArray⟩ : ByteArray).size := by show 0 < (c :: r).toArray.size; simp
          refine Or.inr ⟨h0, by rw [ByteArray.toList_eq]; simp, c.toNat, fun X => ?_, ?_⟩
          · first | (simp [go_sem]; done) | (simp [go_sem]; rfl)
          · show ((46 : UInt8) == c && true) = _
            rw [Bool.and_true, Bool.eq_iff_iff]
            simp only [beq_iff_eq, decide_eq_true_eq]
            exact ⟨fun h => by rw [← h]; rfl, fun h => (UInt8.toNat_inj.1 h).symm⟩)
      obtain ⟨qc, W1, hcv, hsl, hbc⟩ := conv_sl wr s (by omega)
      have HMT := Lib.hid hm
      have HM1 := Lib.hid (HIM.out (bys s) _ W1 hsl (by rw [bys_length]; exact hsz) (by have h1 := (HI.out.nxt hbc).row; rw [← HPLn.out] at h1; exact h1))
      rw [← HMT.out] at HM1
      have HIW := Lib.hid (HI.out.nxt hbc)
      clear hx hs hhp hm hsl hbc
      go_wp2_with fail
      refine HM1.out.mono ?_
      rintro e w3 ⟨rfl, hb3⟩
      have HI3 := Lib.hid (HIW.out.nxt hb3)
      clear hb3
      cases m with
      | false =>
        have HF2 : Hid ((L.take (k + 1)).filter (selB ps) = (L.take k).filter (selB ps)) := Lib.hid (by rw [HTF.out, HSB.out]; simp)
        go_wp2_with fail
        go_roundw
        case rel => exact ⟨k + 1, by go_num, by omega, by rw [HF2.out]; exact HI3⟩
        case measure => simp [intOf]; omega
      | true =>
        cases dt with
        | true =>
          have HF2 : Hid ((L.take (k + 1)).filter (selB ps) = (L.take k).filter (selB ps) ++ [x]) := Lib.hid (by rw [HTF.out, HSB.out, if_pos (by rfl)])
          have HP3 := Lib.hid (HPT.out _ x _ w3 HI3.out.own HI3.out.bel.size hfl)
          rw [HXN.out] at HP3
          go_wp2_with fail
          refine HP3.out.mono ?_
          rintro e w4 ⟨v4, rfl, ho4, hb4⟩
          have HN4 : Hid (RsI w B ps (.slice va pl vc) ((L.take (k + 1)).filter (selB ps)) v4 w4) := Lib.hid ⟨below_thn HI3.out.bel (Nat.le_refl _) hb4, own_drop HI3.out.row hb4, by rw [HF2.out, putAll_snoc]; exact ho4⟩
          clear ho4 hb4
          go_wp2_with fail
          go_roundw
          case rel => exact ⟨k + 1, by go_num, by omega, HN4⟩
          case measure => simp [intOf]; omega
        | false =>
          rcases HDOT.out with ⟨hx0, hs0, hpf0⟩ | ⟨h0, hs1, c, hidx, hpf0⟩
          · have HPF := Lib.hid hpf0
            have hsB : (s.toList == []) = true := by rw [hs0]; rfl
            have HX0 := Lib.hid hx0
            clear hpf0 hx0 hs0
            have HF2 : Hid ((L.take (k + 1)).filter (selB ps) = (L.take k).filter (selB ps) ++ [x]) := Lib.hid (by rw [HTF.out, HSB.out, HPF.out, if_pos (by rfl)])
            have HP3 := Lib.hid (HPT.out _ x _ w3 HI3.out.own HI3.out.bel.size hfl)
            rw [HXN.out] at HP3
            go_wp2_with fail
            refine HP3.out.mono ?_
            rintro e w4 ⟨v4, rfl, ho4, hb4⟩
            have HN4 : Hid (RsI w B ps (.slice va pl vc) ((L.take (k + 1)).filter (selB ps)) v4 w4) := Lib.hid ⟨below_thn HI3.out.bel (Nat.le_refl _) hb4, own_drop HI3.out.row hb4, by rw [HF2.out, putAll_snoc]; exact ho4⟩
            clear ho4 hb4
            go_wp2_with fail
            go_roundw
            case rel => exact ⟨k + 1, by go_num, by omega, HN4⟩
            case measure => simp [intOf]; omega
          · have HPF := Lib.hid hpf0
            have hsB : (s.toList == []) = false := by cases h : s.toList; exact absurd h hs1; rfl
            have h0I : (0 : Int) < (s.size : Int) := by omega
            clear hpf0
            by_cases hc46 : c = 46
            · subst hc46
              have HF2 : Hid ((L.take (k + 1)).filter (selB ps) = (L.take k).filter (selB ps)) := Lib.hid (by rw [HTF.out, HSB.out]; simp [HPF.out])
              go_wp2_with fail
              go_roundw
              case rel => exact ⟨k + 1, by go_num, by omega, by rw [HF2.out]; exact HI3⟩
              case measure => simp [intOf]; omega
            · have hcI : ((c : Int) == 46) = false := by simp; omega
              have hcJ : ((c : Int) != 46) = true := by simp; omega
              have HC46 := Lib.hid hc46
              clear hc46
              have HF2 : Hid ((L.take (k + 1)).filter (selB ps) = (L.take k).filter (selB ps) ++ [x]) := Lib.hid (by rw [HTF.out, HSB.out, HPF.out, decide_eq_false HC46.out, if_pos (by rfl)])
              have HP3 := Lib.hid (HPT.out _ x _ w3 HI3.out.own HI3.out.bel.size hfl)
              rw [HXN.out] at HP3
              go_wp2_with fail
              refine HP3.out.mono ?_
              rintro e w4 ⟨v4, rfl, ho4, hb4⟩
              have HN4 : Hid (RsI w B ps (.slice va pl vc) ((L.take (k + 1)).filter (selB ps)) v4 w4) := Lib.hid ⟨below_thn HI3.out.bel (Nat.le_refl _) hb4, own_drop HI3.out.row hb4, by rw [HF2.out, putAll_snoc]; exact ho4⟩
              clear ho4 hb4
              go_wp2_with fail
              go_roundw
              case rel => exact ⟨k + 1, by go_num, by omega, HN4⟩
              case measure => simp [intOf]; omega
    · have hkn : k = n := by omega
      have HFF : Hid ((L.take k).filter (selB ps) = L.filter (selB ps)) := Lib.hid (by rw [List.take_of_length_le (by rw [hkn, HN.out]; exact Nat.le_refl _)])
      have hkI : ¬ (k : Int) < (n : Int) := by omega
      have HIF := HI.out
      rw [HFF.out] at HIF
      have HII := Lib.hid HIF
      clear HI HFF HIF hkn
      go_wp2
      go_ret
      exact ⟨_, rfl, HII.out.own, HII.out.bel⟩
end Go.Proofs.YtoodpajbefffhaaDoor
