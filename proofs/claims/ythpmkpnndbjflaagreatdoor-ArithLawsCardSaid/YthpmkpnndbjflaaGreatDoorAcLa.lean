/- Variables laid out of a row of any: the program's and the reference's (gen_acla.py). -/
import Derived.Test.YthpmkpnndbjflaaGreatDoorAcVk
import Derived.Test.YthpmkpnndbjflaaGreatDoorKLi
namespace Go.Proofs.YthpmkpnndbjflaaGreatDoor
open Go.RowKit Go.WideMaps Go.Maps

def stepV (acc : Vl) (x : ByteArray × ByteArray) : Vl := if nmB x.1 = true then setV x.1 x.2 acc else acc
def laidV (L : Vl) : Vl := L.foldl stepV []
theorem stepV_len (acc : Vl) (x : ByteArray × ByteArray) : (stepV acc x).length ≤ acc.length + 1 := by
  unfold stepV
  split
  · exact setV_len _ _ _ _
  · omega
theorem laidV_take {L : Vl} {k : Nat} {p : ByteArray × ByteArray} (h : L[k]? = some p) : laidV (L.take (k + 1)) = stepV (laidV (L.take k)) p := by
  have hk := (List.getElem?_eq_some_iff.1 h)
  unfold laidV
  rw [List.take_add_one, h]
  simp [List.foldl_append]
theorem laidV_len : ∀ (L : Vl), (laidV L).length ≤ L.length := by
  intro L
  unfold laidV
  have : ∀ (L acc : Vl), (L.foldl stepV acc).length ≤ acc.length + L.length := by
    intro L
    induction L with
    | nil => intro acc; simp
    | cons x r ih => intro acc; rw [List.foldl_cons]; have := ih (stepV acc x); have := stepV_len acc x; simp only [List.length_cons]; omega
  simpa using this L []
/-- Each of a row's names and values is of one that was laid. -/
theorem mem_laidV {L : Vl} {x : ByteArray × ByteArray} (h : x ∈ laidV L) : x ∈ L ∧ nmB x.1 = true := by
  unfold laidV at h
  have : ∀ (L acc : Vl), x ∈ L.foldl stepV acc → x ∈ acc ∨ (x ∈ L ∧ nmB x.1 = true) := by
    intro L
    induction L with
    | nil => intro acc h; exact Or.inl h
    | cons y r ih =>
      intro acc h
      rw [List.foldl_cons] at h
      rcases ih _ h with h | ⟨h, h2⟩
      · unfold stepV at h
        split at h
        · rename_i hn
          rcases mem_setV.1 h with rfl | ⟨h, _⟩
          · exact Or.inr ⟨List.mem_cons_self, hn⟩
          · exact Or.inl h
        · exact Or.inl h
      · exact Or.inr ⟨List.mem_cons_of_mem _ h, h2⟩
  rcases this L [] h with h | h
  · cases h
  · exact h
/-- The program's variables at vb are acc, the reference's row vm is am. -/
structure LaI (w : World) (vb : Nat) (mo : Option Nat) (N : Nat) (acc am : Vl) (vm : Value) (X : World) : Prop where
  va : VarsAt X vb mo N acc
  row : X.ownsRow w.heap.size 74 2 vm am.length (rowV am)
  bel : Below w.heap.size w X
  lo : w.heap.size ≤ vb
  lom : ∀ mb, mo = some mb → w.heap.size ≤ mb
theorem own_butV {X X' : World} {vb N B n : Nat} {mo : Option Nat} {l : Vl} {v : Value} {xs : List Value} (h : X.ownsRow B 74 2 v n xs) (hv : VarsAt X vb mo N l) (hb : But (VB vb mo) X X') : X'.ownsRow B 74 2 v n xs := by
  refine ⟨h.1, ?_⟩
  rcases h.2 with h0 | ⟨g, cap, cur, e1, e2, e3, r⟩
  · exact Or.inl h0
  · refine Or.inr ⟨g, cap, cur, e1, e2, (hb.block g (lt_blkA e3) ?_).trans e3, r⟩
    rintro (rfl | hm)
    · have := hv.blk
      rw [e3] at this
      simp only [Option.some.injEq, Obj.cells.injEq] at this
      exact absurd this.2.1 (by decide)
    · obtain ⟨D, ⟨es, clock, h1, _⟩, _⟩ := hv.own g hm.symm
      rw [e3] at h1
      cases h1
theorem LaI.below {w : World} {vb N : Nat} {mo : Option Nat} {acc am : Vl} {vm : Value} {X X' : World} (h : LaI w vb mo N acc am vm X) (hb : Below X.heap.size X X') : LaI w vb mo N acc am vm X' :=
  ⟨h.va.below hb, own_belowV h.row hb, h.bel.trans (hb.mono h.bel.size), h.lo, h.lom⟩
theorem below_butV {B vb : Nat} {mo : Option Nat} {w X X' : World} (h : Below B w X) (hb : But (VB vb mo) X X') (hB : B ≤ X.heap.size) (hv : B ≤ vb) (hm : ∀ mb, mo = some mb → B ≤ mb) : Below B w X' :=
  h.trans (hb.below hB (fun i hi hq => by
    rcases hq with rfl | e
    · omega
    · have := hm i e.symm; omega))
set_option maxHeartbeats 2000000 in
theorem isName2_any (s : ByteArray) (w : World) (hl : s.size ≤ maxLen) : Calls Tryz.prog 14 #[.string s] w fun e w' => e = .returned (.bool (nmB s)) ∧ Below w.heap.size w w' := isName_any s w (by unfold maxLen at hl; omega)

theorem set_step (w : World) (vb k : Nat) (mo : Option Nat) (acc am : Vl) (vm : Value) (nm val : ByteArray) (X : World) (h : LaI w vb mo k acc am vm X) (hk : k ≤ 1000000) (hn : nm.size ≤ maxLen) :
    Calls Tryz.prog 13 #[.pointer (some ⟨vb, 0, none⟩), .string nm, .string val] X fun e w' => e = .returned (.bool (nmB nm)) ∧ ∃ mo', LaI w vb mo' (k + 1) (stepV acc (nm, val)) am vm w' := by
  refine (set_any vb k mo acc nm val X h.va (by unfold maxLen; omega) hn).mono ?_
  rintro e w' ⟨rfl, ⟨mo', hmo, hva⟩, hb⟩
  refine ⟨rfl, mo', hva, own_butV h.row h.va hb, below_butV h.bel hb h.bel.size h.lo h.lom, h.lo, fun mb e => ?_⟩
  rcases hmo with rfl | ⟨_, b, hb', hlt⟩
  · exact h.lom mb e
  · rw [hb'] at e
    obtain rfl := Option.some.inj e
    exact Nat.le_trans h.bel.size hlt
theorem own_baseV {W : World} {base base' : Nat} {v : Value} {k : Nat} {xs : List Value} (h : W.ownsRow base 74 2 v k xs) (hb : base' ≤ base) : W.ownsRow base' 74 2 v k xs := by
  refine ⟨h.1, ?_⟩
  rcases h.2 with h0 | ⟨g, cap, cur, e1, e2, r⟩
  · exact Or.inl h0
  · exact Or.inr ⟨g, cap, cur, e1, Nat.le_trans hb e2, r⟩
theorem rset_step (w : World) (vb k : Nat) (mo : Option Nat) (acc am : Vl) (vm : Value) (nm val : ByteArray) (X : World) (h : LaI w vb mo k acc am vm X) (hl : am.length ≤ 1000000) :
    Calls Tryz.prog 15 #[vm, .string nm, .string val] X fun e w' => ∃ v, e = .returned v ∧ LaI w vb mo k acc (setV nm val am) v w' := by
  refine (ref_set vm am nm val X (VS.of_own h.row) hl).mono ?_
  rintro e w' ⟨v, rfl, ho, hb⟩
  exact ⟨v, rfl, h.va.below hb, own_baseV ho h.bel.size, h.bel.trans (hb.mono h.bel.size), h.lo, h.lom⟩
set_option maxRecDepth 100000 in
set_option maxHeartbeats 8000000 in
theorem laid_any (v : Value) (LV : Vl) (w : World) (hv : VS w v LV) (hlen : LV.length ≤ 9223372036854775807) (hsz : ∀ x ∈ LV, x.1.size ≤ maxLen) :
    Calls Tryz.prog 9 #[v] w fun e w' => ∃ vb mo vm, e = .returned (.tuple #[.pointer (some ⟨vb, 0, none⟩), vm]) ∧ LaI w vb mo 40 (laidV (LV.take 40)) (laidV (LV.take 40)) vm w' := by
  obtain ⟨ad, ac, rfl⟩ : ∃ ad ac, v = .slice ad LV.length ac := by
    rcases hv with ⟨rfl, x, y, h⟩ | ⟨x, y, z, h, _⟩
    · exact ⟨x, y, h⟩
    · exact ⟨_, z, h⟩
  have HA := Lib.hid hv
  have HSZ := Lib.hid hsz
  obtain ⟨n, hn⟩ : ∃ n, n = LV.length := ⟨_, rfl⟩
  have HN := Lib.hid hn
  rw [← hn] at hlen
  rw [← hn]
  have HNV := Lib.hid (new_var w)
  clear hv hsz hn
  go_enter Tryz.func9, Tryz.ntmps9
  go_wp2_with fail
  refine HNV.out.mono ?_
  rintro e w1 ⟨rfl, hb, hbl⟩
  have HI0 : Hid (LaI w w.heap.size none 0 [] [] (.slice none 0 0) w1) := Lib.hid ⟨⟨hb, List.Pairwise.nil, fun _ => rfl, fun _ e => (by cases e)⟩, World.ownsRow_nil _ _ _ _, hbl, Nat.le_refl _, fun _ e => (by cases e)⟩
  clear hb hbl HNV
  go_wp2_with fail
  go_loopw [5, 6] (fun s5 s6 X => ∃ (k : Nat) (mo : Option Nat) (va : Option Addr) (m vc : Nat), s5 = .slice va m vc ∧ s6 = .int .i64 (k : Nat) ∧ k ≤ n ∧ k ≤ 40 ∧ LaI w w.heap.size mo k (laidV (LV.take k)) (laidV (LV.take k)) (.slice va m vc) X) (fun _ s6 _ => 40 - (intOf s6).toNat)
  case atStart => exact ⟨0, none, none, 0, 0, rfl, rfl, Nat.zero_le _, Nat.zero_le _, by simpa [laidV] using HI0.out⟩
  case round =>
    obtain ⟨k, mo, va, m, vc, rfl, rfl, hk, hk40, hi⟩ := hrel
    have HI := Lib.hid hi
    clear hi HI0
    by_cases hlt : k < n
    case neg =>
      have hke : k = n := by omega
      have hkI : ¬ ((k : Nat) : Int) < (n : Int) := by omega
      have HT : Hid (laidV (LV.take k) = laidV (LV.take 40)) := Lib.hid (by rw [List.take_of_length_le (by have := HN.out; omega), List.take_of_length_le (by have := HN.out; omega)])
      have HK := Lib.hid hk40
      clear hke hk40
      go_wp2_with fail
      go_ret2
      exact ⟨_, mo, _, rfl, by have h := HI.out; rw [HT.out] at h; exact ⟨h.va.more HK.out, h.row, h.bel, h.lo, h.lom⟩⟩
    by_cases hlt2 : k < 40
    case neg =>
      have hke : k = 40 := by omega
      subst hke
      have hkI : ((40 : Nat) : Int) < (n : Int) := by omega
      go_wp2_with fail
      go_ret2
      exact ⟨_, mo, _, rfl, HI.out⟩
    have hltA : k < LV.length := by rw [← HN.out]; exact hlt
    obtain ⟨⟨pn, pv⟩, hp⟩ : ∃ x, LV[k]? = some x := ⟨LV[k], List.getElem?_eq_getElem hltA⟩
    have HTK := Lib.hid (laidV_take hp)
    have HPS : Hid (pn.size ≤ maxLen) := Lib.hid (HSZ.out _ (List.mem_of_getElem? hp))
    obtain ⟨g, o, cap, hsv, hg, hc⟩ : ∃ g o cap, (.slice ad LV.length ac : Value) = .slice (some ⟨g, o, none⟩) LV.length cap ∧ g < w.heap.size ∧ ∀ (j : Nat) (p : ByteArray × ByteArray), LV[j]? = some p → w.cell? ⟨g, o + j * 2, none⟩ = some (.string p.1) ∧ w.cell? ⟨g, o + j * 2 + 1, none⟩ = some (.string p.2) := by
      rcases HA.out with ⟨h0, _⟩ | h
      · rw [h0] at hltA; simp at hltA
      · exact h
    simp only [Value.slice.injEq] at hsv
    obtain ⟨rfl, hx1, hx2⟩ := hsv
    clear hx1 hx2
    obtain ⟨p0, p1⟩ := hc k _ hp
    dsimp only at p0 p1
    have HC0 := Lib.hid p0
    have HC1 := Lib.hid p1
    have HG := Lib.hid hg
    have hkI : ((k : Nat) : Int) < (n : Int) := by omega
    have hkI2 : ((k : Nat) : Int) < 40 := by omega
    have hkn : ((k : Nat) : Int) + 1 ≤ 9223372036854775807 := by omega
    have HR0 := Lib.hid (Below.refl wr.heap.size wr)
    clear hc hp p0 p1 hg
    go_wp2_with fail

    refine Reg.wp_region_sto (fun Lq _ X => (Lq 11 = false → Below wr.heap.size wr X) ∧ (Lq 11 = true → ∃ mo', LaI w w.heap.size mo' (k + 1) (stepV (laidV (LV.take k)) (pn, pv)) (laidV (LV.take k)) (.slice va m vc) X)) (fun j => ([some (.pointer (some ⟨w.heap.size, 0, none⟩)), some (.slice (some ⟨g, o, none⟩) n ac), some (.int .i64 (k : Nat)), some (.pointer (some ⟨g, o + k * 2, none⟩)), some (.pointer (some ⟨g, o + k * 2, none⟩)), some (.string pn), some (.slice (some ⟨g, o, none⟩) n ac), some (.int .i64 (k : Nat)), some (.pointer (some ⟨g, o + k * 2, none⟩)), some (.pointer (some ⟨g, o + k * 2 + 1, none⟩)), some (.string pv), some (.bool (nmB pn))] : List (Option Value)).getD j none) (by kernel_rfl) (by kernel_rfl) (by kernel_rfl) (by kernel_rfl) ?rs0 ?rsE ?rsZ
    case rs0 => exact ⟨fun _ => (Below.refl _ _).drew, fun h => (by cases h)⟩
    case rsE =>
      refine Reg.EachG.plain rfl (fun L u T X hL hz hS hk K hK => ?_) ?_
      · skip
        have g4 : T[4]? = some (.pointer (some ⟨w.heap.size, 0, none⟩)) := hk.old 4 (by kernel_rfl) rfl
        have hK := hK _ X hS (fun _ hx => Option.some.inj hx)
        clear hk hz hL
        go_simp
        exact hK
      refine Reg.EachG.plain rfl (fun L u T X hL hz hS hk K hK => ?_) ?_
      · skip
        have g0 : T[0]? = some (.slice (some ⟨g, o, none⟩) n ac) := hk.old 0 (by kernel_rfl) rfl
        have hK := hK _ X hS (fun _ hx => Option.some.inj hx)
        clear hk hz hL
        go_simp
        exact hK
      refine Reg.EachG.plain rfl (fun L u T X hL hz hS hk K hK => ?_) ?_
      · skip
        have g6 : T[6]? = some (.int .i64 (k : Nat)) := hk.old 6 (by kernel_rfl) rfl
        have hK := hK _ X hS (fun _ hx => Option.some.inj hx)
        clear hk hz hL
        go_simp
        exact hK
      refine Reg.EachG.plain rfl (fun L u T X hL hz hS hk K hK => ?_) ?_
      · skip
        have g19 : T[19]? = some (.slice (some ⟨g, o, none⟩) n ac) := hk.val 1 19 (by kernel_rfl) (by kernel_rfl) rfl
        have g20 : T[20]? = some (.int .i64 (k : Nat)) := hk.val 2 20 (by kernel_rfl) (by kernel_rfl) rfl
        have hK := hK _ X hS (fun _ hx => Option.some.inj hx)
        clear hk hz hL
        go_simp
        exact hK
      refine Reg.EachG.plain rfl (fun L u T X hL hz hS hk K hK => ?_) ?_
      · skip
        have g21 : T[21]? = some (.pointer (some ⟨g, o + k * 2, none⟩)) := hk.val 3 21 (by kernel_rfl) (by kernel_rfl) rfl
        have hK := hK _ X hS (fun _ hx => Option.some.inj hx)
        clear hk hz hL
        go_simp
        exact hK
      refine Reg.EachG.plain rfl (fun L u T X hL hz hS hk K hK => ?_) ?_
      · skip
        have g22 : T[22]? = some (.pointer (some ⟨g, o + k * 2, none⟩)) := hk.val 4 22 (by kernel_rfl) (by kernel_rfl) rfl
        have hP := hS.1 (hz 11 (by kernel_rfl))
        have q : X.cell? ⟨g, o + k * 2, none⟩ = some (.string pn) := ((HI.out.below hP).bel.cell (p := ⟨g, o + k * 2, none⟩) HG.out).trans HC0.out
        have hK := hK _ X hS (fun _ hx => Option.some.inj hx)
        clear hk hz hL hS hP
        go_simp
        exact hK
      refine Reg.EachG.plain rfl (fun L u T X hL hz hS hk K hK => ?_) ?_
      · skip
        have g0 : T[0]? = some (.slice (some ⟨g, o, none⟩) n ac) := hk.old 0 (by kernel_rfl) rfl
        have hK := hK _ X hS (fun _ hx => Option.some.inj hx)
        clear hk hz hL
        go_simp
        exact hK
      refine Reg.EachG.plain rfl (fun L u T X hL hz hS hk K hK => ?_) ?_
      · skip
        have g6 : T[6]? = some (.int .i64 (k : Nat)) := hk.old 6 (by kernel_rfl) rfl
        have hK := hK _ X hS (fun _ hx => Option.some.inj hx)
        clear hk hz hL
        go_simp
        exact hK
      refine Reg.EachG.plain rfl (fun L u T X hL hz hS hk K hK => ?_) ?_
      · skip
        have g24 : T[24]? = some (.slice (some ⟨g, o, none⟩) n ac) := hk.val 6 24 (by kernel_rfl) (by kernel_rfl) rfl
        have g25 : T[25]? = some (.int .i64 (k : Nat)) := hk.val 7 25 (by kernel_rfl) (by kernel_rfl) rfl
        have hK := hK _ X hS (fun _ hx => Option.some.inj hx)
        clear hk hz hL
        go_simp
        exact hK
      refine Reg.EachG.plain rfl (fun L u T X hL hz hS hk K hK => ?_) ?_
      · skip
        have g26 : T[26]? = some (.pointer (some ⟨g, o + k * 2, none⟩)) := hk.val 8 26 (by kernel_rfl) (by kernel_rfl) rfl
        have hK := hK _ X hS (fun _ hx => Option.some.inj hx)
        clear hk hz hL
        go_simp
        exact hK
      refine Reg.EachG.plain rfl (fun L u T X hL hz hS hk K hK => ?_) ?_
      · skip
        have g27 : T[27]? = some (.pointer (some ⟨g, o + k * 2 + 1, none⟩)) := hk.val 9 27 (by kernel_rfl) (by kernel_rfl) rfl
        have hP := hS.1 (hz 11 (by kernel_rfl))
        have q : X.cell? ⟨g, o + k * 2 + 1, none⟩ = some (.string pv) := ((HI.out.below hP).bel.cell (p := ⟨g, o + k * 2 + 1, none⟩) HG.out).trans HC1.out
        have hK := hK _ X hS (fun _ hx => Option.some.inj hx)
        clear hk hz hL hS hP
        go_simp
        exact hK
      refine Reg.EachG.plain rfl (fun L u T X hL hz hS hk K hK => ?_) ?_
      · skip
        have g18 : T[18]? = some (.pointer (some ⟨w.heap.size, 0, none⟩)) := hk.val 0 18 (by kernel_rfl) (by kernel_rfl) rfl
        have g23 : T[23]? = some (.string pn) := hk.val 5 23 (by kernel_rfl) (by kernel_rfl) rfl
        have g28 : T[28]? = some (.string pv) := hk.val 10 28 (by kernel_rfl) (by kernel_rfl) rfl
        have hP := hS.1 hL
        clear hk hz
        go_simp
        refine (set_step w w.heap.size k mo (laidV (LV.take k)) (laidV (LV.take k)) (.slice va m vc) pn pv X (HI.out.below hP) (by omega) HPS.out).mono ?_
        rintro e w' ⟨rfl, mo', h'⟩
        exact hK _ w' ⟨fun h => (by rw [Reg.upd_same] at h; cases h), fun _ => ⟨mo', h'⟩⟩ (fun _ hx => Option.some.inj hx)
      exact Reg.EachG.nil
    case rsZ =>
      intro L u w1 hL hS hI
      have e0 : u 0 = .pointer (some ⟨w.heap.size, 0, none⟩) := hI 0 (by decide) _ rfl
      have e1 : u 1 = .slice (some ⟨g, o, none⟩) n ac := hI 1 (by decide) _ rfl
      have e2 : u 2 = .int .i64 (k : Nat) := hI 2 (by decide) _ rfl
      have e3 : u 3 = .pointer (some ⟨g, o + k * 2, none⟩) := hI 3 (by decide) _ rfl
      have e4 : u 4 = .pointer (some ⟨g, o + k * 2, none⟩) := hI 4 (by decide) _ rfl
      have e5 : u 5 = .string pn := hI 5 (by decide) _ rfl
      have e6 : u 6 = .slice (some ⟨g, o, none⟩) n ac := hI 6 (by decide) _ rfl
      have e7 : u 7 = .int .i64 (k : Nat) := hI 7 (by decide) _ rfl
      have e8 : u 8 = .pointer (some ⟨g, o + k * 2, none⟩) := hI 8 (by decide) _ rfl
      have e9 : u 9 = .pointer (some ⟨g, o + k * 2 + 1, none⟩) := hI 9 (by decide) _ rfl
      have e10 : u 10 = .string pv := hI 10 (by decide) _ rfl
      have e11 : u 11 = .bool (nmB pn) := hI 11 (by decide) _ rfl
      clear hI
      simp only [Reg.putAll, Act.put, List.setIfInBounds_toArray, List.set_cons_succ, List.set_cons_zero, Nat.zero_add, Nat.reduceAdd, e0, e1, e2, e3, e4, e5, e6, e7, e8, e9, e10, e11]
      clear e0 e1 e2 e3 e4 e5 e6 e7 e8 e9 e10 e11
      have hfin := hS.2 (hL 11 (by decide))
      obtain ⟨mo', hi'⟩ := hfin
      have HI2 := Lib.hid hi'
      have HNM := Lib.hid (isName2_any pn w1 HPS.out)
      have q7 : w1.cell? ⟨g, o + k * 2, none⟩ = some (.string pn) := (HI2.out.bel.cell (p := ⟨g, o + k * 2, none⟩) HG.out).trans HC0.out
      clear hi' hS hL
      go_wp2_with fail
      clear q7
      refine HNM.out.mono ?_
      rintro e w2 ⟨rfl, hb2⟩
      have HI3 := Lib.hid (HI2.out.below hb2)
      clear hb2 HNM
      cases hnm : nmB pn with
      | false =>
        have HST : Hid (laidV (LV.take (k + 1)) = laidV (LV.take k)) := Lib.hid (by rw [HTK.out]; unfold stepV; rw [if_neg (by rw [hnm]; decide)])
        have HST2 : Hid (stepV (laidV (LV.take k)) (pn, pv) = laidV (LV.take k)) := Lib.hid (by unfold stepV; rw [if_neg (by rw [hnm]; decide)])
        go_wp2_with fail
        go_roundw
        case rel => exact ⟨k + 1, mo', va, m, vc, rfl, by go_num, by omega, by omega, by have h := HI3.out; rw [HST2.out] at h; rw [HST.out]; exact h⟩
        case measure => simp [intOf]; omega
      | true =>
        have HST : Hid (laidV (LV.take (k + 1)) = setV pn pv (laidV (LV.take k))) := Lib.hid (by rw [HTK.out]; unfold stepV; rw [if_pos hnm])
        have HST2 : Hid (stepV (laidV (LV.take k)) (pn, pv) = setV pn pv (laidV (LV.take k))) := Lib.hid (by unfold stepV; rw [if_pos hnm])
        go_wp2_with fail
        have HI4 : Hid (LaI w w.heap.size mo' (k + 1) (setV pn pv (laidV (LV.take k))) (laidV (LV.take k)) (.slice va m vc) w2) := Lib.hid (by have h := HI3.out; rw [HST2.out] at h; exact h)
        have HLN : Hid ((laidV (LV.take k)).length ≤ 1000000) := Lib.hid (by have h1 := laidV_len (LV.take k); have h2 := List.length_take_le k LV; omega)
        refine Reg2.wp_region_sto (fun Lq u X => (Lq 11 = false → Below w2.heap.size w2 X) ∧ (Lq 11 = true → LaI w w.heap.size mo' (k + 1) (setV pn pv (laidV (LV.take k))) (setV pn pv (laidV (LV.take k))) (u 11) X) ∧ (Lq 12 = true → u 12 = u 11)) (fun j => ([some (.slice va m vc), some (.slice (some ⟨g, o, none⟩) n ac), some (.int .i64 (k : Nat)), some (.pointer (some ⟨g, o + k * 2, none⟩)), some (.pointer (some ⟨g, o + k * 2, none⟩)), some (.string pn), some (.slice (some ⟨g, o, none⟩) n ac), some (.int .i64 (k : Nat)), some (.pointer (some ⟨g, o + k * 2, none⟩)), some (.pointer (some ⟨g, o + k * 2 + 1, none⟩)), some (.string pv), none, none] : List (Option Value)).getD j none) (by kernel_rfl) (by kernel_rfl) (by kernel_rfl) (by kernel_rfl) ?rs0 ?rsE ?rsZ
        case rs0 => exact ⟨fun _ => (Below.refl _ _).drew, fun h => (by cases h), fun h => (by cases h)⟩
        case rsE =>
          refine Reg2.EachG.plain rfl (fun L u T X hL hz hS hk K hK => ?_) ?_
          · skip
            have g5 : T[5]? = some (.slice va m vc) := hk.later 12 5 (by kernel_rfl) (hz 12 (by kernel_rfl)) rfl
            have hK := hK _ X hS (fun _ hx => Option.some.inj hx)
            clear hk hz hL
            go_simp
            exact hK
          refine Reg2.EachG.plain rfl (fun L u T X hL hz hS hk K hK => ?_) ?_
          · skip
            have g0 : T[0]? = some (.slice (some ⟨g, o, none⟩) n ac) := hk.old 0 (by kernel_rfl) rfl
            have hK := hK _ X hS (fun _ hx => Option.some.inj hx)
            clear hk hz hL
            go_simp
            exact hK
          refine Reg2.EachG.plain rfl (fun L u T X hL hz hS hk K hK => ?_) ?_
          · skip
            have g6 : T[6]? = some (.int .i64 (k : Nat)) := hk.old 6 (by kernel_rfl) rfl
            have hK := hK _ X hS (fun _ hx => Option.some.inj hx)
            clear hk hz hL
            go_simp
            exact hK
          refine Reg2.EachG.plain rfl (fun L u T X hL hz hS hk K hK => ?_) ?_
          · skip
            have g37 : T[37]? = some (.slice (some ⟨g, o, none⟩) n ac) := hk.val 1 37 (by kernel_rfl) (by kernel_rfl) rfl
            have g38 : T[38]? = some (.int .i64 (k : Nat)) := hk.val 2 38 (by kernel_rfl) (by kernel_rfl) rfl
            have hK := hK _ X hS (fun _ hx => Option.some.inj hx)
            clear hk hz hL
            go_simp
            exact hK
          refine Reg2.EachG.plain rfl (fun L u T X hL hz hS hk K hK => ?_) ?_
          · skip
            have g39 : T[39]? = some (.pointer (some ⟨g, o + k * 2, none⟩)) := hk.val 3 39 (by kernel_rfl) (by kernel_rfl) rfl
            have hK := hK _ X hS (fun _ hx => Option.some.inj hx)
            clear hk hz hL
            go_simp
            exact hK
          refine Reg2.EachG.plain rfl (fun L u T X hL hz hS hk K hK => ?_) ?_
          · skip
            have g40 : T[40]? = some (.pointer (some ⟨g, o + k * 2, none⟩)) := hk.val 4 40 (by kernel_rfl) (by kernel_rfl) rfl
            have hP := hS.1 (hz 11 (by kernel_rfl))
            have q : X.cell? ⟨g, o + k * 2, none⟩ = some (.string pn) := ((HI4.out.below hP).bel.cell (p := ⟨g, o + k * 2, none⟩) HG.out).trans HC0.out
            have hK := hK _ X hS (fun _ hx => Option.some.inj hx)
            clear hk hz hL hS hP
            go_simp
            exact hK
          refine Reg2.EachG.plain rfl (fun L u T X hL hz hS hk K hK => ?_) ?_
          · skip
            have g0 : T[0]? = some (.slice (some ⟨g, o, none⟩) n ac) := hk.old 0 (by kernel_rfl) rfl
            have hK := hK _ X hS (fun _ hx => Option.some.inj hx)
            clear hk hz hL
            go_simp
            exact hK
          refine Reg2.EachG.plain rfl (fun L u T X hL hz hS hk K hK => ?_) ?_
          · skip
            have g6 : T[6]? = some (.int .i64 (k : Nat)) := hk.old 6 (by kernel_rfl) rfl
            have hK := hK _ X hS (fun _ hx => Option.some.inj hx)
            clear hk hz hL
            go_simp
            exact hK
          refine Reg2.EachG.plain rfl (fun L u T X hL hz hS hk K hK => ?_) ?_
          · skip
            have g42 : T[42]? = some (.slice (some ⟨g, o, none⟩) n ac) := hk.val 6 42 (by kernel_rfl) (by kernel_rfl) rfl
            have g43 : T[43]? = some (.int .i64 (k : Nat)) := hk.val 7 43 (by kernel_rfl) (by kernel_rfl) rfl
            have hK := hK _ X hS (fun _ hx => Option.some.inj hx)
            clear hk hz hL
            go_simp
            exact hK
          refine Reg2.EachG.plain rfl (fun L u T X hL hz hS hk K hK => ?_) ?_
          · skip
            have g44 : T[44]? = some (.pointer (some ⟨g, o + k * 2, none⟩)) := hk.val 8 44 (by kernel_rfl) (by kernel_rfl) rfl
            have hK := hK _ X hS (fun _ hx => Option.some.inj hx)
            clear hk hz hL
            go_simp
            exact hK
          refine Reg2.EachG.plain rfl (fun L u T X hL hz hS hk K hK => ?_) ?_
          · skip
            have g45 : T[45]? = some (.pointer (some ⟨g, o + k * 2 + 1, none⟩)) := hk.val 9 45 (by kernel_rfl) (by kernel_rfl) rfl
            have hP := hS.1 (hz 11 (by kernel_rfl))
            have q : X.cell? ⟨g, o + k * 2 + 1, none⟩ = some (.string pv) := ((HI4.out.below hP).bel.cell (p := ⟨g, o + k * 2 + 1, none⟩) HG.out).trans HC1.out
            have hK := hK _ X hS (fun _ hx => Option.some.inj hx)
            clear hk hz hL hS hP
            go_simp
            exact hK
          refine Reg2.EachG.plain rfl (fun L u T X hL hz hS hk K hK => ?_) ?_
          · skip
            have g36 : T[36]? = some (.slice va m vc) := hk.val 0 36 (by kernel_rfl) (by kernel_rfl) rfl
            have g41 : T[41]? = some (.string pn) := hk.val 5 41 (by kernel_rfl) (by kernel_rfl) rfl
            have g46 : T[46]? = some (.string pv) := hk.val 10 46 (by kernel_rfl) (by kernel_rfl) rfl
            have hP := hS.1 hL
            have h12 : L 12 = false := hz 12 (by kernel_rfl)
            clear hk hz
            go_simp
            refine (rset_step w w.heap.size (k + 1) mo' (setV pn pv (laidV (LV.take k))) (laidV (LV.take k)) (.slice va m vc) pn pv X (HI4.out.below hP) HLN.out).mono ?_
            rintro e w' ⟨v, rfl, h'⟩
            exact hK v w' ⟨fun h => (by rw [Reg2.upd_same] at h; cases h), fun _ => (by rw [Reg2.upd_same]; exact h'), fun h => (by rw [Reg2.upd_ne _ _ (by decide), h12] at h; cases h)⟩ (fun _ hx => (by cases hx))
          refine Reg2.EachG.plain rfl (fun L u T X hL hz hS hk K hK => ?_) ?_
          · skip
            obtain ⟨g47, l47⟩ := hk.any 11 47 (by kernel_rfl) (by kernel_rfl)
            have hK := hK (u 11) X ⟨fun h => (by rw [Reg2.upd_ne _ _ (by decide), l47] at h; cases h), fun _ => (by rw [Reg2.upd_ne _ _ (by decide)]; exact hS.2.1 l47), fun _ => (by rw [Reg2.upd_same, Reg2.upd_ne _ _ (by decide)])⟩ (fun _ hx => (by cases hx))
            clear hk hz hL hS
            go_simp
            exact hK
          exact Reg2.EachG.nil
        case rsZ =>
          intro L u w1 hL hS hI
          have e0 : u 0 = .slice va m vc := hI 0 (by decide) _ rfl
          have e1 : u 1 = .slice (some ⟨g, o, none⟩) n ac := hI 1 (by decide) _ rfl
          have e2 : u 2 = .int .i64 (k : Nat) := hI 2 (by decide) _ rfl
          have e3 : u 3 = .pointer (some ⟨g, o + k * 2, none⟩) := hI 3 (by decide) _ rfl
          have e4 : u 4 = .pointer (some ⟨g, o + k * 2, none⟩) := hI 4 (by decide) _ rfl
          have e5 : u 5 = .string pn := hI 5 (by decide) _ rfl
          have e6 : u 6 = .slice (some ⟨g, o, none⟩) n ac := hI 6 (by decide) _ rfl
          have e7 : u 7 = .int .i64 (k : Nat) := hI 7 (by decide) _ rfl
          have e8 : u 8 = .pointer (some ⟨g, o + k * 2, none⟩) := hI 8 (by decide) _ rfl
          have e9 : u 9 = .pointer (some ⟨g, o + k * 2 + 1, none⟩) := hI 9 (by decide) _ rfl
          have e10 : u 10 = .string pv := hI 10 (by decide) _ rfl
          clear hI
          simp only [Reg2.putAll, Act.put, List.setIfInBounds_toArray, List.set_cons_succ, List.set_cons_zero, Nat.zero_add, Nat.reduceAdd, e0, e1, e2, e3, e4, e5, e6, e7, e8, e9, e10]
          clear e0 e1 e2 e3 e4 e5 e6 e7 e8 e9 e10
          have hfin := hS.2.1 (hL 11 (by decide))
          have he12 := hS.2.2 (hL 12 (by decide))
          obtain ⟨va', vc', hv'⟩ := own_shapeA hfin.row
          rw [he12, hv']
          rw [hv'] at hfin
          have HFI := Lib.hid hfin
          clear hfin he12 hv' hS hL
          go_wp2_with fail
          go_roundw
          case rel => exact ⟨k + 1, mo', va', _, vc', rfl, by go_num, by omega, by omega, by rw [HST.out]; exact HFI.out⟩
          case measure => simp [intOf]; omega
end Go.Proofs.YthpmkpnndbjflaaGreatDoor
