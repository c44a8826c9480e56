/- KEi: several texts in one (kmerge.py). -/
import Derived.Test.YthmgcebonplcgaaGreatDoorKPl
import Derived.Test.YthmgcebonplcgaaGreatDoorKTb
import Derived.Test.YthmgcebonplcgaaGreatDoorReApp
import Derived.Test.YthmgcebonplcgaaGreatDoorKCt
import Derived.Test.YthmgcebonplcgaaGreatDoorSlB
/- RetextEither: its walks (gen_reei.py). -/
namespace Go.Proofs.YthmgcebonplcgaaGreatDoor
open Go.RowKit

def ParOk (t : Nd) (g : Nat) (p : Nat) (w : World) : Prop := (∀ X, Below w.heap.size w X → Calls Tryz.prog 7 #[.pointer (some ⟨p, 0, none⟩)] X fun x w' => x = .returned (.int .i64 g) ∧ w' = X) ∧ (∀ X, Below w.heap.size w X → Calls Tryz.prog 9 #[.pointer (some ⟨p, 0, none⟩)] X (ClP t X))
def ParNo (c p : Nat) (k : Nat) (w : World) : Prop := ∀ X, Below w.heap.size w X → Calls Tryz.prog 6 #[.iface 64 (.pointer (some ⟨k, 0, none⟩))] X fun x w' => x = .returned (.agg #[.int .i64 c, .int .i64 p, .int .i64 4]) ∧ Below X.heap.size X w'
theorem ParOk.next {t : Nd} {g p : Nat} {w w' : World} (h : ParOk t g p w) (hb : Below w.heap.size w w') : ParOk t g p w' := ⟨fun X hX => h.1 X (below_thn hb (Nat.le_refl _) hX), fun X hX => h.2 X (below_thn hb (Nat.le_refl _) hX)⟩
theorem ParNo.next {c p k : Nat} {w w' : World} (h : ParNo c p k w) (hb : Below w.heap.size w w') : ParNo c p k w' := fun X hX => h X (below_thn hb (Nat.le_refl _) hX)

set_option maxHeartbeats 4000000 in
theorem groups_any (v : Value) (l : List Int) (w : World) (h : Sl w v l) (hl : l.length ≤ 1000) :
    Calls Tryz.prog 8 #[v] w fun x w' => x = .returned (.int .i64 (cnt l : Nat)) ∧ w' = w := by
  obtain ⟨a, cap, rfl⟩ : ∃ a cap, v = .slice a l.length cap := by
    rcases h.2.2 with ⟨rfl, a, cap, rfl⟩ | ⟨b, o, cap, rfl, _⟩
    · exact ⟨a, cap, rfl⟩
    · exact ⟨_, cap, rfl⟩
  have HC : Hid (∀ k, k < l.length → ∃ b o, a = some ⟨b, o, none⟩ ∧ w.cell? ⟨b, o + k, none⟩ = some (.int .u8 (l.getD k 0)) ∧ 0 ≤ l.getD k 0 ∧ l.getD k 0 ≤ 255) := Lib.hid (fun k hk => by
    rcases h.2.2 with ⟨rfl, _⟩ | ⟨b, o, cap', he, _, _, hr⟩
    · simp at hk
    · simp only [Value.slice.injEq] at he
      exact ⟨b, o, he.1, hr k hk, h.1 k⟩)
  have HT : Hid (∀ k, k < l.length → cnt (l.take (k + 1)) = cnt (l.take k) + (if l.getD k 0 = 40 then 1 else 0)) := Lib.hid (fun k hk => by
    unfold cnt
    rw [List.take_succ_eq_append_getElem hk, List.count_append, List.count_singleton, List.getD, List.getElem?_eq_getElem hk]
    simp)
  have HLE : Hid (∀ k, k ≤ l.length → cnt (l.take k) ≤ 1000) := Lib.hid (fun k hk => by
    have := List.count_le_length (a := (40 : Int)) (l := l.take k)
    rw [List.length_take] at this
    unfold cnt
    omega)
  clear h
  go_enter Tryz.func8, Tryz.ntmps8
  go_upto_region 3 with fail
  go_loopg [3, 5, 8] (l.length) (fun g s3 s5 i wr => ∃ k : Nat, g = l.length - k ∧ k ≤ l.length ∧ i = .int .i64 k ∧ s3 = .int .i64 (cnt (l.take k) : Nat) ∧ w = wr)
  case atStart => exact ⟨0, by omega, Nat.zero_le _, rfl, rfl, rfl⟩
  case round =>
    obtain ⟨k, rfl, hk, rfl, rfl, rfl⟩ := hrel
    have hle := HLE.out k hk
    by_cases hlt : k < l.length
    · obtain ⟨b, o, rfl, hc, h0, h1⟩ := HC.out k hlt
      have ht := HT.out k hlt
      have hlti : (k : Int) < (l.length : Int) := by omega
      have hk0 : (0 : Int) ≤ (k : Int) := by omega
      have hbl := World.block_lt_of_cell? _ _ hc
      generalize l.getD k 0 = c at *
      generalize cnt (l.take k) = n at *
      generalize hM : cnt (l.take (k + 1)) = M at *
      have HM := Lib.hid hM
      clear hM
      by_cases h40 : c = 40
      · subst h40
        rw [if_pos rfl] at ht
        have HTT := Lib.hid ht
        clear ht
        go_wp2_with fail
        go_roundg (l.length - (k + 1))
        case measure => omega
        case rel => exact ⟨k + 1, rfl, by omega, by go_num, by rw [HM.out, HTT.out]; go_num, rfl⟩
      · rw [if_neg h40] at ht
        have HTT := Lib.hid ht
        have hq : (c == 40) = false := by simpa using h40
        clear ht
        go_wp2_with fail
        go_roundg (l.length - (k + 1))
        case measure => omega
        case rel => exact ⟨k + 1, rfl, by omega, by go_num, by rw [HM.out, HTT.out]; rfl, rfl⟩
    · obtain rfl : k = l.length := by omega
      have hnl : ¬ (l.length : Int) < (l.length : Int) := by omega
      have HTL : Hid (cnt (l.take l.length) = cnt l) := Lib.hid (by rw [List.take_length])
      rw [HTL.out]
      go_wp2_with fail
      go_ret
      exact ⟨rfl, rfl⟩
set_option maxRecDepth 100000 in
set_option maxHeartbeats 4000000 in
theorem branches_any (t : Nd) (S : Nat → Prop) (kv : Value) (w : World) (h : t.In w S kv) :
    Calls Tryz.prog 10 #[t.v kv] w fun x w' => x = .returned (.int .i64 (brN t : Nat)) ∧ Below w.heap.size w w' := by
  obtain ⟨ta, tm, tc, rfl⟩ := h.shape
  obtain ⟨l, hl⟩ : ∃ l, t.kids = fo l := ⟨t.kids.toL, (fo_toL _).symm⟩
  have htm := kid_len hl h
  have hkl : t.kids.len = tm := by rw [hl, fo_len, htm]
  obtain ⟨W, hW⟩ : ∃ W, W = w.alloc (.cells (t.cells (.slice ta tm tc)).toArray 39) := ⟨_, rfl⟩
  have h1 : W.heap[w.heap.size]? = some (.cells (t.cells (.slice ta tm tc)).toArray 39 (0, 0)) := by rw [hW]; exact alloc_last w _
  have HB : Hid (Below w.heap.size w W) := Lib.hid (by rw [hW]; exact (Below.refl _ _).alloc (Nat.le_refl _) _)
  obtain ⟨a0, _, _, _, _, _, _, _, a8⟩ := re_cells h1
  have hz := lt_blkB h1
  have HWE := Lib.hid hW
  have HNA : Hid (t.v (.slice ta tm tc) = .agg (t.cells (.slice ta tm tc)).toArray) := Lib.hid rfl
  have HBR : Hid (brN t = if t.kd = 5 then tm else 1) := Lib.hid (by unfold brN; rw [hkl])
  rw [HNA.out, HBR.out]
  clear h1 hW h hl htm hkl HBR HNA
  generalize (t.cells (.slice ta tm tc)).toArray = ca at *
  generalize t.kd = q0 at *
  by_cases hq : q0 = 5
  · subst hq
    rw [if_pos rfl]
    go_enter Tryz.func10, Tryz.ntmps10
    go_upto_region 1 with fail
    rw [← HWE.out]
    go_wp2_with fail
    go_ret
    exact ⟨rfl, HB.out⟩
  · rw [if_neg hq]
    have hq2 : (q0 == 5) = false := by simpa using hq
    go_enter Tryz.func10, Tryz.ntmps10
    go_upto_region 1 with fail
    rw [← HWE.out]
    go_wp2_with fail
    go_ret
    exact ⟨rfl, HB.out⟩
set_option maxRecDepth 100000 in
theorem eq_fault (a b c : Int) (w : World) :
    (Op.equalIn 10000 30 (.agg #[.int .i64 a, .int .i64 b, .int .i64 c]) (.agg #[.int .i64 a, .int .i64 b, .int .i64 c])).run Tryz.prog w = .ok true w := by
  have hf : (Tryz.prog.fieldsOf 30).toList.map (fun f => (f.name, f.type, f.offset)) = [("Code", 3, 0), ("Pos", 3, 1), ("Lang", 3, 2)] := by kernel_rfl
  have hu : Tryz.prog.underlying 30 = some (.struct (Tryz.prog.fieldsOf 30)) := by kernel_rfl
  have hs : Tryz.prog.stoodInHeld 30 = false := by kernel_rfl
  obtain ⟨f0, r0, e0, hf0, hr0⟩ := List.map_eq_cons_iff.1 hf
  obtain ⟨f1, r1, e1, hf1, hr1⟩ := List.map_eq_cons_iff.1 hr0
  obtain ⟨f2, r2, e2, hf2, hr2⟩ := List.map_eq_cons_iff.1 hr1
  have er : r2 = [] := List.map_eq_nil_iff.1 hr2
  subst er
  subst e2
  subst e1
  simp only [Prod.mk.injEq] at hf0 hf1 hf2
  have hp0 : ∀ (a b c : Value) (w : World), (part 3 #[a, b, c] 0).run Tryz.prog w = .ok a w := fun a b c w => by kernel_rfl
  have hp1 : ∀ (a b c : Value) (w : World), (part 3 #[a, b, c] 1).run Tryz.prog w = .ok b w := fun a b c w => by kernel_rfl
  have hp2 : ∀ (a b c : Value) (w : World), (part 3 #[a, b, c] 2).run Tryz.prog w = .ok c w := fun a b c w => by kernel_rfl
  have hi : ∀ (d : Nat) (a b : Int) (w : World), (Op.equalIn (d + 1) 3 (.int .i64 a) (.int .i64 b)).run Tryz.prog w = .ok (a == b) w := fun d a b w => run_equalIn_int w d _ .i64 .i64 a b Tryz.underlying3
  rw [show (10000 : Nat) = 9999 + 1 from rfl, run_equalIn_agg w 9999 _ _ _ hu hs, e0]
  simp only [Op.eqFields, hf0.1, hf0.2.1, hf0.2.2, hf1.1, hf1.2.1, hf1.2.2, hf2.1, hf2.2.1, hf2.2.2]
  have hi9 := fun (a b : Int) (w : World) => hi 9998 a b w
  simp [Sem.run_bind, Sem.run_ite, hp0, hp1, hp2, hi9]

set_option maxRecDepth 100000 in
set_option maxHeartbeats 16000000 in
theorem ei_1 (w : World) (va vb : Option Addr) (n m ca cb : Nat) (h1 : 120 < n)
    (HA : Hid (∀ X, Below w.heap.size w X → Calls Tryz.prog 4 #[] X fun x w' => x = .returned (.bool true) ∧ Below X.heap.size X w')) :
    Calls Tryz.prog 3 #[.slice va n ca, .slice vb m cb] w fun x w' => x = .returned (.bool true) ∧ Below w.heap.size w w' := by
  have d1 : decide ((120 : Int) < (n : Int)) = true := decide_eq_true (by omega)
  have d2 : decide (120 < n) = true := decide_eq_true h1
  go_enter Tryz.func3, Tryz.ntmps3
  go_wp2_with fail
  refine (HA.out _ (Below.refl _ _)).mono ?_
  rintro x wz ⟨rfl, hbz⟩
  have HZ := Lib.hid (below_thn (Below.refl _ _) (Nat.le_refl _) hbz)
  clear hbz
  go_wp2
  go_ret
  exact ⟨rfl, HZ.out⟩
set_option maxRecDepth 100000 in
set_option maxHeartbeats 16000000 in
theorem ei_2 (w : World) (va vb : Option Addr) (n m ca cb : Nat) (h1 : ¬ 120 < n) (h2 : 120 < m)
    (HA : Hid (∀ X, Below w.heap.size w X → Calls Tryz.prog 4 #[] X fun x w' => x = .returned (.bool true) ∧ Below X.heap.size X w')) :
    Calls Tryz.prog 3 #[.slice va n ca, .slice vb m cb] w fun x w' => x = .returned (.bool true) ∧ Below w.heap.size w w' := by
  have d1 : decide ((120 : Int) < (n : Int)) = false := decide_eq_false (by omega)
  have d2 : decide ((120 : Int) < (m : Int)) = true := decide_eq_true (by omega)
  have d3 : decide (120 < n) = false := decide_eq_false h1
  have d4 : decide (120 < m) = true := decide_eq_true h2
  go_enter Tryz.func3, Tryz.ntmps3
  go_wp2_with fail
  refine (HA.out _ (Below.refl _ _)).mono ?_
  rintro x wz ⟨rfl, hbz⟩
  have HZ := Lib.hid (below_thn (Below.refl _ _) (Nat.le_refl _) hbz)
  clear hbz
  go_wp2
  go_ret
  exact ⟨rfl, HZ.out⟩
set_option maxRecDepth 100000 in
set_option maxHeartbeats 16000000 in
theorem ei_3 (w : World) (b o : Nat) (vb : Option Addr) (n m ca cb : Nat) (hn : n + 1 ≤ 120) (hm : m ≤ 120) (hc : w.cell? ⟨b, o + n, none⟩ = some (.int .u8 92))
    (HA : Hid (∀ X, Below w.heap.size w X → Calls Tryz.prog 4 #[] X fun x w' => x = .returned (.bool true) ∧ Below X.heap.size X w')) :
    Calls Tryz.prog 3 #[.slice (some ⟨b, o, none⟩) (n + 1) ca, .slice vb m cb] w fun x w' => x = .returned (.bool true) ∧ Below w.heap.size w w' := by
  have d5 : decide ((120 : Int) < (n : Int) + 1) = false := decide_eq_false (by omega)
  have d6 : decide (120 < n + 1) = false := decide_eq_false (by omega)
  have d2 : decide ((120 : Int) < (m : Int)) = false := decide_eq_false (by omega)
  have d4 : decide (120 < m) = false := decide_eq_false (by omega)
  have d7 : decide ((0 : Int) < (n : Int) + 1) = true := decide_eq_true (by omega)
  have d8 : decide (0 < n + 1) = true := decide_eq_true (by omega)
  have d9 : IntKind.i64.wrap ((n : Int) + 1 - 1) = (n : Int) := by rw [IntKind.wrap_i64]; omega
  have d10 : IntKind.i64.wrap (n : Int) = (n : Int) := by rw [IntKind.wrap_i64]; omega
  have hn0 : (0 : Int) ≤ (n : Int) := by omega
  have hn1 : (n : Int) < (n : Int) + 1 := by omega
  have hbl := World.block_lt_of_cell? _ _ hc
  go_enter Tryz.func3, Tryz.ntmps3
  go_wp2_with fail
  refine (HA.out _ (Below.refl _ _)).mono ?_
  rintro x wz ⟨rfl, hbz⟩
  have HZ := Lib.hid (below_thn (Below.refl _ _) (Nat.le_refl _) hbz)
  clear hbz
  go_wp2
  go_ret
  exact ⟨rfl, HZ.out⟩
set_option maxRecDepth 100000 in
set_option maxHeartbeats 16000000 in
theorem ei_a1 (w : World) (b o : Nat) (vb : Option Addr) (n m ca cb : Nat) (hn : n + 1 ≤ 120) (hm : m ≤ 120) (c92 : Int) (hc : w.cell? ⟨b, o + n, none⟩ = some (.int .u8 c92)) (hc9 : (c92 == 92) = false) (c : Nat)
    (la lb : List Int) (hla : Sl w (.slice (some ⟨b, o, none⟩) (n + 1) ca) la) (hlb : Sl w (.slice vb m cb) lb) (hna : ∀ n' c', (.slice (some ⟨b, o, none⟩) (n + 1) ca) = Value.slice none n' c' → n' = 0 ∧ c' = 0) (hnb : ∀ n' c', (.slice vb m cb) = Value.slice none n' c' → n' = 0 ∧ c' = 0)
    (HPA : Hid (∀ X, X = w → Calls Tryz.prog 5 #[.slice (some ⟨b, o, none⟩) (n + 1) ca, .bool true] X fun x w' => ∃ k, x = .returned (.tuple #[.pointer none, .iface 64 (.pointer (some ⟨k, 0, none⟩))]) ∧ ParNo c (n + 1) k w' ∧ Below X.heap.size X w'))
    (HPB : Hid (∀ X, Below w.heap.size w X → Calls Tryz.prog 5 #[.slice vb m cb, .bool true] X fun x w' => ∃ u1 u2, x = .returned (.tuple #[u1, u2]) ∧ Below X.heap.size X w'))
    (HPL : Hid (∀ X v, Below w.heap.size w X → Sl X v (barL la lb) → (∀ x o n cap, v = .slice (some ⟨x, o, none⟩) n cap → x < X.heap.size) → Calls Tryz.prog 5 #[v, .bool true] X fun x w' => ∃ u1 u2, x = .returned (.tuple #[u1, u2]) ∧ Below X.heap.size X w'))
    (_HA : Hid (∀ X, Below w.heap.size w X → Calls Tryz.prog 4 #[] X fun x w' => x = .returned (.bool true) ∧ Below X.heap.size X w')) :
    Calls Tryz.prog 3 #[.slice (some ⟨b, o, none⟩) (n + 1) ca, .slice vb m cb] w fun x w' => x = .returned (.bool true) ∧ Below w.heap.size w w' := by
  have hfp : ∀ (c p q : Int) (X : World), (Instr.field 30 (.agg #[.int .i64 c, .int .i64 p, .int .i64 q]) 1).run Tryz.prog X = .ok (.int .i64 p) X := fun c p q X => by kernel_rfl
  have d5 : decide ((120 : Int) < (n : Int) + 1) = false := decide_eq_false (by omega)
  have d6 : decide (120 < n + 1) = false := decide_eq_false (by omega)
  have d2 : decide ((120 : Int) < (m : Int)) = false := decide_eq_false (by omega)
  have d4 : decide (120 < m) = false := decide_eq_false (by omega)
  have d7 : decide ((0 : Int) < (n : Int) + 1) = true := decide_eq_true (by omega)
  have d8 : decide (0 < n + 1) = true := decide_eq_true (by omega)
  have d9 : IntKind.i64.wrap ((n : Int) + 1 - 1) = (n : Int) := by rw [IntKind.wrap_i64]; omega
  have d10 : IntKind.i64.wrap (n : Int) = (n : Int) := by rw [IntKind.wrap_i64]; omega
  have hn0 : (0 : Int) ≤ (n : Int) := by omega
  have hn1 : (n : Int) < (n : Int) + 1 := by omega
  have hbl := World.block_lt_of_cell? _ _ hc
  have hll : la.length = n + 1 := hla.lenR
  have hlbl : lb.length = m := hlb.lenR
  have HSA := Lib.hid hla
  have HSB := Lib.hid hlb
  have HNA := Lib.hid hna
  have HNB := Lib.hid hnb
  have hlaI : la.length ≤ 120 := by omega
  have hlbI : lb.length ≤ 120 := by omega
  clear hla hlb hna hnb hll hlbl
  go_enter Tryz.func3, Tryz.ntmps3
  go_wp2_with fail
  refine (HPA.out w rfl).mono ?_
  rintro x w1 ⟨kA, rfl, hrA, hbA⟩
  have HB1 : Hid (Below w.heap.size w w1) := Lib.hid hbA
  have HRA := Lib.hid hrA
  clear hrA
  clear hbA
  go_wp2_with fail
  refine (HPB.out w1 HB1.out).mono ?_
  rintro x w2 ⟨uB1, uB2, rfl, hbB⟩
  have HB2 : Hid (Below w.heap.size w w2) := Lib.hid (below_thn HB1.out (Nat.le_refl _) hbB)
  have HRA2 := Lib.hid (HRA.out.next hbB)
  clear hbB
  have HO0 : Hid ((w2.alloc (.cells #[] 5)).ownsRow w2.heap.size 5 1 (.slice (some ⟨w2.heap.size, 0, none⟩) 0 0) 0 []) := Lib.hid (World.ownsRow_made (base := w2.heap.size) (e := 5) (size := 1) w2 #[] 0 (Nat.le_refl _) (by unfold maxLen; omega) rfl)
  have HBa : Hid (Below w2.heap.size w2 (w2.alloc (.cells #[] 5))) := Lib.hid ((Below.refl _ _).alloc (Nat.le_refl _) _)
  have HS3 := Lib.hid (HSA.out.below (below_thn HB2.out (Nat.le_refl _) (HBa.out)))
  go_wp2_with (at_builtin; refine app_bytes rfl (.tmp 48) (.tmp 49) rfl w2.heap.size _ 0 [] rfl HO0.out _ la rfl HS3.out HNA.out (by omega) HBa.out.size ?_)
  intro v4 w4 hown4 hb4
  have HB4 := Lib.hid (HBa.out.trans hb4)
  have HO4 : Hid (w4.ownsRow w2.heap.size 5 1 v4 la.length (la.map (Value.int .u8))) := Lib.hid (by simpa using hown4)
  clear hown4 hb4
  have HB4a : Hid (∀ o, Below w2.heap.size w2 (w4.alloc o)) := Lib.hid (fun o => HB4.out.alloc HB4.out.size o)
  go_wp2_with (at_builtin; refine app_lit rfl (.tmp 50) (.tmp 51) rfl w2.heap.size _ _ la rfl (HO4.out.alloc _) _ 1 1 [124] rfl rfl (news1 _ _ _) (by omega) (HB4a.out _).size ?_)
  intro v5 w5 hown5 hb5 _
  have HB5 := Lib.hid ((HB4a.out _).trans hb5)
  have HO5 := Lib.hid hown5
  have HS5 := Lib.hid (HSB.out.below (below_thn HB2.out (Nat.le_refl _) (HB5.out)))
  clear hown5 hb5
  go_wp2_with (at_builtin; refine app_bytes rfl (.tmp 52) (.tmp 53) rfl w2.heap.size _ _ _ rfl HO5.out _ lb rfl HS5.out HNB.out (by omega) HB5.out.size ?_)
  intro v6 w6 hown6 hb6
  have HB6 := Lib.hid (HB5.out.trans hb6)
  have hown7 : w6.ownsRow w2.heap.size 5 1 v6 (barL la lb).length ((barL la lb).map (Value.int .u8)) := by
    have e : (barL la lb).length = la.length + 1 + lb.length := barL_len la lb
    rw [e]
    have e2 : (barL la lb).map (Value.int .u8) = la.map (Value.int .u8) ++ Value.int .u8 124 :: lb.map (Value.int .u8) := by unfold barL; simp
    rw [e2]
    simpa using hown6
  have HS6 : Hid (Sl w6 v6 (barL la lb)) := Lib.hid (slOwnedM hown7 (bar_byt HSA.out.1 HSB.out.1) (by rw [barL_len]; omega))
  have HV6 : Hid (∀ x o n cap, v6 = .slice (some ⟨x, o, none⟩) n cap → x < w6.heap.size) := Lib.hid (fun x o n cap e => (hown7.lt x (by rw [e]; rfl)).2)
  have HBw6 := Lib.hid (below_thn HB2.out (Nat.le_refl _) HB6.out)
  clear hown6 hb6 hown7
  have HL6 := Lib.hid (HPL.out w6 v6 HBw6.out HS6.out HV6.out)
  go_wp2_with fail
  refine HL6.out.mono ?_
  rintro x w7 ⟨uL1, uL2, rfl, hbL⟩
  have HB7 : Hid (Below w.heap.size w w7) := Lib.hid (below_thn HBw6.out (Nat.le_refl _) hbL)
  have HB27 : Hid (Below w2.heap.size w2 w7) := Lib.hid (below_thn HB6.out (Nat.le_refl _) hbL)
  have HRA7 := Lib.hid (HRA2.out.next HB27.out)
  clear hbL
  have dz : (((n : Int) + 1) == ((n : Int) + 1)) = true := by simp
  go_wp2_with fail
  refine (HRA7.out w7 (Below.refl _ _)).mono ?_
  rintro x w8 ⟨rfl, hb8⟩
  have HZ := Lib.hid (below_thn HB7.out (Nat.le_refl _) hb8)
  clear hb8
  go_wp2
  go_ret
  exact ⟨rfl, HZ.out⟩
set_option maxRecDepth 100000 in
set_option maxHeartbeats 16000000 in
theorem ei_a2 (w : World) (b o : Nat) (vb : Option Addr) (n m ca cb : Nat) (hn : n + 1 ≤ 120) (hm : m ≤ 120) (c92 : Int) (hc : w.cell? ⟨b, o + n, none⟩ = some (.int .u8 c92)) (hc9 : (c92 == 92) = false) (c p : Nat) (hp : p ≠ n + 1)
    (la lb : List Int) (hla : Sl w (.slice (some ⟨b, o, none⟩) (n + 1) ca) la) (hlb : Sl w (.slice vb m cb) lb) (hna : ∀ n' c', (.slice (some ⟨b, o, none⟩) (n + 1) ca) = Value.slice none n' c' → n' = 0 ∧ c' = 0) (hnb : ∀ n' c', (.slice vb m cb) = Value.slice none n' c' → n' = 0 ∧ c' = 0)
    (HPA : Hid (∀ X, X = w → Calls Tryz.prog 5 #[.slice (some ⟨b, o, none⟩) (n + 1) ca, .bool true] X fun x w' => ∃ k, x = .returned (.tuple #[.pointer none, .iface 64 (.pointer (some ⟨k, 0, none⟩))]) ∧ ParNo c p k w' ∧ Below X.heap.size X w'))
    (HPB : Hid (∀ X, Below w.heap.size w X → Calls Tryz.prog 5 #[.slice vb m cb, .bool true] X fun x w' => ∃ u1 u2, x = .returned (.tuple #[u1, u2]) ∧ Below X.heap.size X w'))
    (HPL : Hid (∀ X v, Below w.heap.size w X → Sl X v (barL la lb) → (∀ x o n cap, v = .slice (some ⟨x, o, none⟩) n cap → x < X.heap.size) → Calls Tryz.prog 5 #[v, .bool true] X fun x w' => ∃ k, x = .returned (.tuple #[.pointer none, .iface 64 (.pointer (some ⟨k, 0, none⟩))]) ∧ ParNo c p k w' ∧ Below X.heap.size X w'))
    (HA : Hid (∀ X, Below w.heap.size w X → Calls Tryz.prog 4 #[] X fun x w' => x = .returned (.bool true) ∧ Below X.heap.size X w')) :
    Calls Tryz.prog 3 #[.slice (some ⟨b, o, none⟩) (n + 1) ca, .slice vb m cb] w fun x w' => x = .returned (.bool true) ∧ Below w.heap.size w w' := by
  have hfp : ∀ (c p q : Int) (X : World), (Instr.field 30 (.agg #[.int .i64 c, .int .i64 p, .int .i64 q]) 1).run Tryz.prog X = .ok (.int .i64 p) X := fun c p q X => by kernel_rfl
  have e1 : ((p : Int) == (n : Int) + 1) = false := by simp; omega
  have e2 : decide ((p : Int) = (n : Int) + 1) = false := decide_eq_false (by omega)
  have e3 : decide (p = n + 1) = false := decide_eq_false hp
  have d5 : decide ((120 : Int) < (n : Int) + 1) = false := decide_eq_false (by omega)
  have d6 : decide (120 < n + 1) = false := decide_eq_false (by omega)
  have d2 : decide ((120 : Int) < (m : Int)) = false := decide_eq_false (by omega)
  have d4 : decide (120 < m) = false := decide_eq_false (by omega)
  have d7 : decide ((0 : Int) < (n : Int) + 1) = true := decide_eq_true (by omega)
  have d8 : decide (0 < n + 1) = true := decide_eq_true (by omega)
  have d9 : IntKind.i64.wrap ((n : Int) + 1 - 1) = (n : Int) := by rw [IntKind.wrap_i64]; omega
  have d10 : IntKind.i64.wrap (n : Int) = (n : Int) := by rw [IntKind.wrap_i64]; omega
  have hn0 : (0 : Int) ≤ (n : Int) := by omega
  have hn1 : (n : Int) < (n : Int) + 1 := by omega
  have hbl := World.block_lt_of_cell? _ _ hc
  have hll : la.length = n + 1 := hla.lenR
  have hlbl : lb.length = m := hlb.lenR
  have HSA := Lib.hid hla
  have HSB := Lib.hid hlb
  have HNA := Lib.hid hna
  have HNB := Lib.hid hnb
  have hlaI : la.length ≤ 120 := by omega
  have hlbI : lb.length ≤ 120 := by omega
  clear hla hlb hna hnb hll hlbl
  go_enter Tryz.func3, Tryz.ntmps3
  go_wp2_with fail
  refine (HPA.out w rfl).mono ?_
  rintro x w1 ⟨kA, rfl, hrA, hbA⟩
  have HB1 : Hid (Below w.heap.size w w1) := Lib.hid hbA
  have HRA := Lib.hid hrA
  clear hrA
  clear hbA
  go_wp2_with fail
  refine (HPB.out w1 HB1.out).mono ?_
  rintro x w2 ⟨uB1, uB2, rfl, hbB⟩
  have HB2 : Hid (Below w.heap.size w w2) := Lib.hid (below_thn HB1.out (Nat.le_refl _) hbB)
  have HRA2 := Lib.hid (HRA.out.next hbB)
  clear hbB
  have HO0 : Hid ((w2.alloc (.cells #[] 5)).ownsRow w2.heap.size 5 1 (.slice (some ⟨w2.heap.size, 0, none⟩) 0 0) 0 []) := Lib.hid (World.ownsRow_made (base := w2.heap.size) (e := 5) (size := 1) w2 #[] 0 (Nat.le_refl _) (by unfold maxLen; omega) rfl)
  have HBa : Hid (Below w2.heap.size w2 (w2.alloc (.cells #[] 5))) := Lib.hid ((Below.refl _ _).alloc (Nat.le_refl _) _)
  have HS3 := Lib.hid (HSA.out.below (below_thn HB2.out (Nat.le_refl _) (HBa.out)))
  go_wp2_with (at_builtin; refine app_bytes rfl (.tmp 48) (.tmp 49) rfl w2.heap.size _ 0 [] rfl HO0.out _ la rfl HS3.out HNA.out (by omega) HBa.out.size ?_)
  intro v4 w4 hown4 hb4
  have HB4 := Lib.hid (HBa.out.trans hb4)
  have HO4 : Hid (w4.ownsRow w2.heap.size 5 1 v4 la.length (la.map (Value.int .u8))) := Lib.hid (by simpa using hown4)
  clear hown4 hb4
  have HB4a : Hid (∀ o, Below w2.heap.size w2 (w4.alloc o)) := Lib.hid (fun o => HB4.out.alloc HB4.out.size o)
  go_wp2_with (at_builtin; refine app_lit rfl (.tmp 50) (.tmp 51) rfl w2.heap.size _ _ la rfl (HO4.out.alloc _) _ 1 1 [124] rfl rfl (news1 _ _ _) (by omega) (HB4a.out _).size ?_)
  intro v5 w5 hown5 hb5 _
  have HB5 := Lib.hid ((HB4a.out _).trans hb5)
  have HO5 := Lib.hid hown5
  have HS5 := Lib.hid (HSB.out.below (below_thn HB2.out (Nat.le_refl _) (HB5.out)))
  clear hown5 hb5
  go_wp2_with (at_builtin; refine app_bytes rfl (.tmp 52) (.tmp 53) rfl w2.heap.size _ _ _ rfl HO5.out _ lb rfl HS5.out HNB.out (by omega) HB5.out.size ?_)
  intro v6 w6 hown6 hb6
  have HB6 := Lib.hid (HB5.out.trans hb6)
  have hown7 : w6.ownsRow w2.heap.size 5 1 v6 (barL la lb).length ((barL la lb).map (Value.int .u8)) := by
    have e : (barL la lb).length = la.length + 1 + lb.length := barL_len la lb
    rw [e]
    have e2 : (barL la lb).map (Value.int .u8) = la.map (Value.int .u8) ++ Value.int .u8 124 :: lb.map (Value.int .u8) := by unfold barL; simp
    rw [e2]
    simpa using hown6
  have HS6 : Hid (Sl w6 v6 (barL la lb)) := Lib.hid (slOwnedM hown7 (bar_byt HSA.out.1 HSB.out.1) (by rw [barL_len]; omega))
  have HV6 : Hid (∀ x o n cap, v6 = .slice (some ⟨x, o, none⟩) n cap → x < w6.heap.size) := Lib.hid (fun x o n cap e => (hown7.lt x (by rw [e]; rfl)).2)
  have HBw6 := Lib.hid (below_thn HB2.out (Nat.le_refl _) HB6.out)
  clear hown6 hb6 hown7
  have HL6 := Lib.hid (HPL.out w6 v6 HBw6.out HS6.out HV6.out)
  go_wp2_with fail
  refine HL6.out.mono ?_
  rintro x w7 ⟨kL, rfl, hrL, hbL⟩
  have HB7 : Hid (Below w.heap.size w w7) := Lib.hid (below_thn HBw6.out (Nat.le_refl _) hbL)
  have HB27 : Hid (Below w2.heap.size w2 w7) := Lib.hid (below_thn HB6.out (Nat.le_refl _) hbL)
  have HRA7 := Lib.hid (HRA2.out.next HB27.out)
  have HRL7 := Lib.hid hrL
  clear hrL
  clear hbL
  go_wp2_with fail
  refine (HRA7.out w7 (Below.refl _ _)).mono ?_
  rintro x w8 ⟨rfl, hb8⟩
  have HB8 := Lib.hid (below_thn HB7.out (Nat.le_refl _) hb8)
  have HRA8 := Lib.hid (HRA7.out.next hb8)
  have HRL8 := Lib.hid (HRL7.out.next hb8)
  clear hb8
  go_wp2_with fail
  refine (HRL8.out w8 (Below.refl _ _)).mono ?_
  rintro x w9 ⟨rfl, hb9⟩
  have HB9 := Lib.hid (below_thn HB8.out (Nat.le_refl _) hb9)
  have HRA9 := Lib.hid (HRA8.out.next hb9)
  clear hb9
  have hef := eq_fault (c : Int) (p : Int) 4
  go_wp2_with fail
  refine (HRA9.out w9 (Below.refl _ _)).mono ?_
  rintro x w10 ⟨rfl, hb10⟩
  have HB10 := Lib.hid (below_thn HB9.out (Nat.le_refl _) hb10)
  clear hb10
  go_wp2_with fail
  refine (HA.out _ HB10.out).mono ?_
  rintro x wz ⟨rfl, hbz⟩
  have HZ := Lib.hid (below_thn HB10.out (Nat.le_refl _) hbz)
  clear hbz
  go_wp2
  go_ret
  exact ⟨rfl, HZ.out⟩
set_option maxRecDepth 100000 in
set_option maxHeartbeats 16000000 in
theorem ei_a0 (w : World) (va vb : Option Addr) (m ca cb : Nat) (hm : m ≤ 120) (c : Nat)
    (la lb : List Int) (hla : Sl w (.slice va 0 ca) la) (hlb : Sl w (.slice vb m cb) lb) (hna : ∀ n' c', (.slice va 0 ca) = Value.slice none n' c' → n' = 0 ∧ c' = 0) (hnb : ∀ n' c', (.slice vb m cb) = Value.slice none n' c' → n' = 0 ∧ c' = 0)
    (HPA : Hid (∀ X, X = w → Calls Tryz.prog 5 #[.slice va 0 ca, .bool true] X fun x w' => ∃ k, x = .returned (.tuple #[.pointer none, .iface 64 (.pointer (some ⟨k, 0, none⟩))]) ∧ ParNo c 0 k w' ∧ Below X.heap.size X w'))
    (HPB : Hid (∀ X, Below w.heap.size w X → Calls Tryz.prog 5 #[.slice vb m cb, .bool true] X fun x w' => ∃ u1 u2, x = .returned (.tuple #[u1, u2]) ∧ Below X.heap.size X w'))
    (HPL : Hid (∀ X v, Below w.heap.size w X → Sl X v (barL la lb) → (∀ x o n cap, v = .slice (some ⟨x, o, none⟩) n cap → x < X.heap.size) → Calls Tryz.prog 5 #[v, .bool true] X fun x w' => ∃ k, x = .returned (.tuple #[.pointer none, .iface 64 (.pointer (some ⟨k, 0, none⟩))]) ∧ ParNo c 0 k w' ∧ Below X.heap.size X w'))
    (HA : Hid (∀ X, Below w.heap.size w X → Calls Tryz.prog 4 #[] X fun x w' => x = .returned (.bool true) ∧ Below X.heap.size X w')) :
    Calls Tryz.prog 3 #[.slice va 0 ca, .slice vb m cb] w fun x w' => x = .returned (.bool true) ∧ Below w.heap.size w w' := by
  have hfp : ∀ (c p q : Int) (X : World), (Instr.field 30 (.agg #[.int .i64 c, .int .i64 p, .int .i64 q]) 1).run Tryz.prog X = .ok (.int .i64 p) X := fun c p q X => by kernel_rfl
  have d2 : decide ((120 : Int) < (m : Int)) = false := decide_eq_false (by omega)
  have d4 : decide (120 < m) = false := decide_eq_false (by omega)
  have hll : la.length = 0 := hla.lenR
  have hlbl : lb.length = m := hlb.lenR
  have HSA := Lib.hid hla
  have HSB := Lib.hid hlb
  have HNA := Lib.hid hna
  have HNB := Lib.hid hnb
  have hlaI : la.length ≤ 120 := by omega
  have hlbI : lb.length ≤ 120 := by omega
  clear hla hlb hna hnb hll hlbl
  go_enter Tryz.func3, Tryz.ntmps3
  go_wp2_with fail
  refine (HPA.out w rfl).mono ?_
  rintro x w1 ⟨kA, rfl, hrA, hbA⟩
  have HB1 : Hid (Below w.heap.size w w1) := Lib.hid hbA
  have HRA := Lib.hid hrA
  clear hrA
  clear hbA
  go_wp2_with fail
  refine (HPB.out w1 HB1.out).mono ?_
  rintro x w2 ⟨uB1, uB2, rfl, hbB⟩
  have HB2 : Hid (Below w.heap.size w w2) := Lib.hid (below_thn HB1.out (Nat.le_refl _) hbB)
  have HRA2 := Lib.hid (HRA.out.next hbB)
  clear hbB
  have HO0 : Hid ((w2.alloc (.cells #[] 5)).ownsRow w2.heap.size 5 1 (.slice (some ⟨w2.heap.size, 0, none⟩) 0 0) 0 []) := Lib.hid (World.ownsRow_made (base := w2.heap.size) (e := 5) (size := 1) w2 #[] 0 (Nat.le_refl _) (by unfold maxLen; omega) rfl)
  have HBa : Hid (Below w2.heap.size w2 (w2.alloc (.cells #[] 5))) := Lib.hid ((Below.refl _ _).alloc (Nat.le_refl _) _)
  have HS3 := Lib.hid (HSA.out.below (below_thn HB2.out (Nat.le_refl _) (HBa.out)))
  go_wp2_with (at_builtin; refine app_bytes rfl (.tmp 48) (.tmp 49) rfl w2.heap.size _ 0 [] rfl HO0.out _ la rfl HS3.out HNA.out (by omega) HBa.out.size ?_)
  intro v4 w4 hown4 hb4
  have HB4 := Lib.hid (HBa.out.trans hb4)
  have HO4 : Hid (w4.ownsRow w2.heap.size 5 1 v4 la.length (la.map (Value.int .u8))) := Lib.hid (by simpa using hown4)
  clear hown4 hb4
  have HB4a : Hid (∀ o, Below w2.heap.size w2 (w4.alloc o)) := Lib.hid (fun o => HB4.out.alloc HB4.out.size o)
  go_wp2_with (at_builtin; refine app_lit rfl (.tmp 50) (.tmp 51) rfl w2.heap.size _ _ la rfl (HO4.out.alloc _) _ 1 1 [124] rfl rfl (news1 _ _ _) (by omega) (HB4a.out _).size ?_)
  intro v5 w5 hown5 hb5 _
  have HB5 := Lib.hid ((HB4a.out _).trans hb5)
  have HO5 := Lib.hid hown5
  have HS5 := Lib.hid (HSB.out.below (below_thn HB2.out (Nat.le_refl _) (HB5.out)))
  clear hown5 hb5
  go_wp2_with (at_builtin; refine app_bytes rfl (.tmp 52) (.tmp 53) rfl w2.heap.size _ _ _ rfl HO5.out _ lb rfl HS5.out HNB.out (by omega) HB5.out.size ?_)
  intro v6 w6 hown6 hb6
  have HB6 := Lib.hid (HB5.out.trans hb6)
  have hown7 : w6.ownsRow w2.heap.size 5 1 v6 (barL la lb).length ((barL la lb).map (Value.int .u8)) := by
    have e : (barL la lb).length = la.length + 1 + lb.length := barL_len la lb
    rw [e]
    have e2 : (barL la lb).map (Value.int .u8) = la.map (Value.int .u8) ++ Value.int .u8 124 :: lb.map (Value.int .u8) := by unfold barL; simp
    rw [e2]
    simpa using hown6
  have HS6 : Hid (Sl w6 v6 (barL la lb)) := Lib.hid (slOwnedM hown7 (bar_byt HSA.out.1 HSB.out.1) (by rw [barL_len]; omega))
  have HV6 : Hid (∀ x o n cap, v6 = .slice (some ⟨x, o, none⟩) n cap → x < w6.heap.size) := Lib.hid (fun x o n cap e => (hown7.lt x (by rw [e]; rfl)).2)
  have HBw6 := Lib.hid (below_thn HB2.out (Nat.le_refl _) HB6.out)
  clear hown6 hb6 hown7
  have HL6 := Lib.hid (HPL.out w6 v6 HBw6.out HS6.out HV6.out)
  go_wp2_with fail
  refine HL6.out.mono ?_
  rintro x w7 ⟨kL, rfl, hrL, hbL⟩
  have HB7 : Hid (Below w.heap.size w w7) := Lib.hid (below_thn HBw6.out (Nat.le_refl _) hbL)
  have HB27 : Hid (Below w2.heap.size w2 w7) := Lib.hid (below_thn HB6.out (Nat.le_refl _) hbL)
  have HRA7 := Lib.hid (HRA2.out.next HB27.out)
  have HRL7 := Lib.hid hrL
  clear hrL
  clear hbL
  go_wp2_with fail
  refine (HRA7.out w7 (Below.refl _ _)).mono ?_
  rintro x w8 ⟨rfl, hb8⟩
  have HB8 := Lib.hid (below_thn HB7.out (Nat.le_refl _) hb8)
  have HRA8 := Lib.hid (HRA7.out.next hb8)
  have HRL8 := Lib.hid (HRL7.out.next hb8)
  clear hb8
  go_wp2_with fail
  refine (HRL8.out w8 (Below.refl _ _)).mono ?_
  rintro x w9 ⟨rfl, hb9⟩
  have HB9 := Lib.hid (below_thn HB8.out (Nat.le_refl _) hb9)
  have HRA9 := Lib.hid (HRA8.out.next hb9)
  clear hb9
  have hef := eq_fault (c : Int) ((0 : Nat) : Int) 4
  go_wp2_with fail
  refine (HRA9.out w9 (Below.refl _ _)).mono ?_
  rintro x w10 ⟨rfl, hb10⟩
  have HB10 := Lib.hid (below_thn HB9.out (Nat.le_refl _) hb10)
  clear hb10
  go_wp2_with fail
  refine (HA.out _ HB10.out).mono ?_
  rintro x wz ⟨rfl, hbz⟩
  have HZ := Lib.hid (below_thn HB10.out (Nat.le_refl _) hbz)
  clear hbz
  go_wp2
  go_ret
  exact ⟨rfl, HZ.out⟩
set_option maxRecDepth 100000 in
set_option maxHeartbeats 16000000 in
theorem ei_m (w : World) (b o : Nat) (vb : Option Addr) (n m ca cb : Nat) (hn : n + 1 ≤ 120) (hm : m ≤ 120) (c92 : Int) (hc : w.cell? ⟨b, o + n, none⟩ = some (.int .u8 c92)) (hc9 : (c92 == 92) = false) (t : Nd) (g : Nat) (hg : g ≤ 9)
    (la lb : List Int) (hla : Sl w (.slice (some ⟨b, o, none⟩) (n + 1) ca) la) (hlb : Sl w (.slice vb m cb) lb) (hna : ∀ n' c', (.slice (some ⟨b, o, none⟩) (n + 1) ca) = Value.slice none n' c' → n' = 0 ∧ c' = 0) (hnb : ∀ n' c', (.slice vb m cb) = Value.slice none n' c' → n' = 0 ∧ c' = 0)
    (HPA : Hid (∀ X, X = w → Calls Tryz.prog 5 #[.slice (some ⟨b, o, none⟩) (n + 1) ca, .bool true] X fun x w' => ∃ p, x = .returned (.tuple #[.pointer (some ⟨p, 0, none⟩), .nilIface]) ∧ ParOk t g p w' ∧ Below X.heap.size X w'))
    (HPB : Hid (∀ X, Below w.heap.size w X → Calls Tryz.prog 5 #[.slice vb m cb, .bool true] X fun x w' => ∃ u1 u2, x = .returned (.tuple #[u1, u2]) ∧ Below X.heap.size X w'))
    (HPL : Hid (∀ X v, Below w.heap.size w X → Sl X v (barL la lb) → (∀ x o n cap, v = .slice (some ⟨x, o, none⟩) n cap → x < X.heap.size) → Calls Tryz.prog 5 #[v, .bool true] X fun x w' => ∃ u1 u2, x = .returned (.tuple #[u1, u2]) ∧ Below X.heap.size X w'))
    (hgm : 9 < g + cnt lb) (hcl : cnt lb ≤ 1000)
    (HA : Hid (∀ X, Below w.heap.size w X → Calls Tryz.prog 4 #[] X fun x w' => x = .returned (.bool true) ∧ Below X.heap.size X w')) :
    Calls Tryz.prog 3 #[.slice (some ⟨b, o, none⟩) (n + 1) ca, .slice vb m cb] w fun x w' => x = .returned (.bool true) ∧ Below w.heap.size w w' := by
  have e1 : decide ((9 : Int) < (g : Int) + (cnt lb : Int)) = true := decide_eq_true (by omega)
  have e2 : decide (9 < g + cnt lb) = true := decide_eq_true hgm
  have e3 : IntKind.i64.wrap ((g : Int) + (cnt lb : Int)) = (g : Int) + (cnt lb : Int) := by rw [IntKind.wrap_i64]; omega
  have d5 : decide ((120 : Int) < (n : Int) + 1) = false := decide_eq_false (by omega)
  have d6 : decide (120 < n + 1) = false := decide_eq_false (by omega)
  have d2 : decide ((120 : Int) < (m : Int)) = false := decide_eq_false (by omega)
  have d4 : decide (120 < m) = false := decide_eq_false (by omega)
  have d7 : decide ((0 : Int) < (n : Int) + 1) = true := decide_eq_true (by omega)
  have d8 : decide (0 < n + 1) = true := decide_eq_true (by omega)
  have d9 : IntKind.i64.wrap ((n : Int) + 1 - 1) = (n : Int) := by rw [IntKind.wrap_i64]; omega
  have d10 : IntKind.i64.wrap (n : Int) = (n : Int) := by rw [IntKind.wrap_i64]; omega
  have hn0 : (0 : Int) ≤ (n : Int) := by omega
  have hn1 : (n : Int) < (n : Int) + 1 := by omega
  have hbl := World.block_lt_of_cell? _ _ hc
  have hll : la.length = n + 1 := hla.lenR
  have hlbl : lb.length = m := hlb.lenR
  have HSA := Lib.hid hla
  have HSB := Lib.hid hlb
  have HNA := Lib.hid hna
  have HNB := Lib.hid hnb
  have hlaI : la.length ≤ 120 := by omega
  have hlbI : lb.length ≤ 120 := by omega
  clear hla hlb hna hnb hll hlbl
  go_enter Tryz.func3, Tryz.ntmps3
  go_wp2_with fail
  refine (HPA.out w rfl).mono ?_
  rintro x w1 ⟨kA, rfl, hrA, hbA⟩
  have HB1 : Hid (Below w.heap.size w w1) := Lib.hid hbA
  have HRA := Lib.hid hrA
  clear hrA
  clear hbA
  go_wp2_with fail
  refine (HPB.out w1 HB1.out).mono ?_
  rintro x w2 ⟨uB1, uB2, rfl, hbB⟩
  have HB2 : Hid (Below w.heap.size w w2) := Lib.hid (below_thn HB1.out (Nat.le_refl _) hbB)
  have HRA2 := Lib.hid (HRA.out.next hbB)
  clear hbB
  have HO0 : Hid ((w2.alloc (.cells #[] 5)).ownsRow w2.heap.size 5 1 (.slice (some ⟨w2.heap.size, 0, none⟩) 0 0) 0 []) := Lib.hid (World.ownsRow_made (base := w2.heap.size) (e := 5) (size := 1) w2 #[] 0 (Nat.le_refl _) (by unfold maxLen; omega) rfl)
  have HBa : Hid (Below w2.heap.size w2 (w2.alloc (.cells #[] 5))) := Lib.hid ((Below.refl _ _).alloc (Nat.le_refl _) _)
  have HS3 := Lib.hid (HSA.out.below (below_thn HB2.out (Nat.le_refl _) (HBa.out)))
  go_wp2_with (at_builtin; refine app_bytes rfl (.tmp 48) (.tmp 49) rfl w2.heap.size _ 0 [] rfl HO0.out _ la rfl HS3.out HNA.out (by omega) HBa.out.size ?_)
  intro v4 w4 hown4 hb4
  have HB4 := Lib.hid (HBa.out.trans hb4)
  have HO4 : Hid (w4.ownsRow w2.heap.size 5 1 v4 la.length (la.map (Value.int .u8))) := Lib.hid (by simpa using hown4)
  clear hown4 hb4
  have HB4a : Hid (∀ o, Below w2.heap.size w2 (w4.alloc o)) := Lib.hid (fun o => HB4.out.alloc HB4.out.size o)
  go_wp2_with (at_builtin; refine app_lit rfl (.tmp 50) (.tmp 51) rfl w2.heap.size _ _ la rfl (HO4.out.alloc _) _ 1 1 [124] rfl rfl (news1 _ _ _) (by omega) (HB4a.out _).size ?_)
  intro v5 w5 hown5 hb5 _
  have HB5 := Lib.hid ((HB4a.out _).trans hb5)
  have HO5 := Lib.hid hown5
  have HS5 := Lib.hid (HSB.out.below (below_thn HB2.out (Nat.le_refl _) (HB5.out)))
  clear hown5 hb5
  go_wp2_with (at_builtin; refine app_bytes rfl (.tmp 52) (.tmp 53) rfl w2.heap.size _ _ _ rfl HO5.out _ lb rfl HS5.out HNB.out (by omega) HB5.out.size ?_)
  intro v6 w6 hown6 hb6
  have HB6 := Lib.hid (HB5.out.trans hb6)
  have hown7 : w6.ownsRow w2.heap.size 5 1 v6 (barL la lb).length ((barL la lb).map (Value.int .u8)) := by
    have e : (barL la lb).length = la.length + 1 + lb.length := barL_len la lb
    rw [e]
    have e2 : (barL la lb).map (Value.int .u8) = la.map (Value.int .u8) ++ Value.int .u8 124 :: lb.map (Value.int .u8) := by unfold barL; simp
    rw [e2]
    simpa using hown6
  have HS6 : Hid (Sl w6 v6 (barL la lb)) := Lib.hid (slOwnedM hown7 (bar_byt HSA.out.1 HSB.out.1) (by rw [barL_len]; omega))
  have HV6 : Hid (∀ x o n cap, v6 = .slice (some ⟨x, o, none⟩) n cap → x < w6.heap.size) := Lib.hid (fun x o n cap e => (hown7.lt x (by rw [e]; rfl)).2)
  have HBw6 := Lib.hid (below_thn HB2.out (Nat.le_refl _) HB6.out)
  clear hown6 hb6 hown7
  have HL6 := Lib.hid (HPL.out w6 v6 HBw6.out HS6.out HV6.out)
  go_wp2_with fail
  refine HL6.out.mono ?_
  rintro x w7 ⟨uL1, uL2, rfl, hbL⟩
  have HB7 : Hid (Below w.heap.size w w7) := Lib.hid (below_thn HBw6.out (Nat.le_refl _) hbL)
  have HB27 : Hid (Below w2.heap.size w2 w7) := Lib.hid (below_thn HB6.out (Nat.le_refl _) hbL)
  have HRA7 := Lib.hid (HRA2.out.next HB27.out)
  clear hbL
  go_wp2_with fail
  refine (HRA7.out.1 w7 (Below.refl _ _)).mono ?_
  rintro x w8 ⟨rfl, rfl⟩
  have HSB8 := Lib.hid (HSB.out.below HB7.out)
  go_wp2_with fail
  refine (groups_any _ lb _ HSB8.out (by omega)).mono ?_
  rintro x w9 ⟨rfl, rfl⟩
  go_wp2_with fail
  refine (HA.out _ HB7.out).mono ?_
  rintro x wz ⟨rfl, hbz⟩
  have HZ := Lib.hid (below_thn HB7.out (Nat.le_refl _) hbz)
  clear hbz
  go_wp2
  go_ret
  exact ⟨rfl, HZ.out⟩
set_option maxRecDepth 100000 in
set_option maxHeartbeats 16000000 in
theorem ei_b (w : World) (b o : Nat) (vb : Option Addr) (n m ca cb : Nat) (hn : n + 1 ≤ 120) (hm : m ≤ 120) (c92 : Int) (hc : w.cell? ⟨b, o + n, none⟩ = some (.int .u8 c92)) (hc9 : (c92 == 92) = false) (t : Nd) (g c p : Nat) (hp : p ≤ 120)
    (la lb : List Int) (hla : Sl w (.slice (some ⟨b, o, none⟩) (n + 1) ca) la) (hlb : Sl w (.slice vb m cb) lb) (hna : ∀ n' c', (.slice (some ⟨b, o, none⟩) (n + 1) ca) = Value.slice none n' c' → n' = 0 ∧ c' = 0) (hnb : ∀ n' c', (.slice vb m cb) = Value.slice none n' c' → n' = 0 ∧ c' = 0)
    (HPA : Hid (∀ X, X = w → Calls Tryz.prog 5 #[.slice (some ⟨b, o, none⟩) (n + 1) ca, .bool true] X fun x w' => ∃ p, x = .returned (.tuple #[.pointer (some ⟨p, 0, none⟩), .nilIface]) ∧ ParOk t g p w' ∧ Below X.heap.size X w'))
    (HPB : Hid (∀ X, Below w.heap.size w X → Calls Tryz.prog 5 #[.slice vb m cb, .bool true] X fun x w' => ∃ k, x = .returned (.tuple #[.pointer none, .iface 64 (.pointer (some ⟨k, 0, none⟩))]) ∧ ParNo c p k w' ∧ Below X.heap.size X w'))
    (HPL : Hid (∀ X v, Below w.heap.size w X → Sl X v (barL la lb) → (∀ x o n cap, v = .slice (some ⟨x, o, none⟩) n cap → x < X.heap.size) → Calls Tryz.prog 5 #[v, .bool true] X fun x w' => ∃ k, x = .returned (.tuple #[.pointer none, .iface 64 (.pointer (some ⟨k, 0, none⟩))]) ∧ ParNo c (p + (n + 1 + 1)) k w' ∧ Below X.heap.size X w'))
    (hgm : g + cnt lb ≤ 9)
    (HA : Hid (∀ X, Below w.heap.size w X → Calls Tryz.prog 4 #[] X fun x w' => x = .returned (.bool true) ∧ Below X.heap.size X w')) :
    Calls Tryz.prog 3 #[.slice (some ⟨b, o, none⟩) (n + 1) ca, .slice vb m cb] w fun x w' => x = .returned (.bool true) ∧ Below w.heap.size w w' := by
  have f1 : decide ((9 : Int) < (g : Int) + (cnt lb : Int)) = false := decide_eq_false (by omega)
  have f2 : decide (9 < g + cnt lb) = false := decide_eq_false (by omega)
  have f3 : IntKind.i64.wrap ((g : Int) + (cnt lb : Int)) = (g : Int) + (cnt lb : Int) := by rw [IntKind.wrap_i64]; omega
  have f4 : IntKind.i64.wrap ((p : Int) + ((n : Int) + 1)) = (p : Int) + ((n : Int) + 1) := by rw [IntKind.wrap_i64]; omega
  have f5 : IntKind.i64.wrap ((p : Int) + ((n : Int) + 1) + 1) = (p : Int) + ((n : Int) + 1) + 1 := by rw [IntKind.wrap_i64]; omega
  have HFQ : Hid (((p : Int) + ((n : Int) + 1 + 1)) = (p : Int) + ((n : Int) + 1) + 1) := Lib.hid (by omega)
  have d5 : decide ((120 : Int) < (n : Int) + 1) = false := decide_eq_false (by omega)
  have d6 : decide (120 < n + 1) = false := decide_eq_false (by omega)
  have d2 : decide ((120 : Int) < (m : Int)) = false := decide_eq_false (by omega)
  have d4 : decide (120 < m) = false := decide_eq_false (by omega)
  have d7 : decide ((0 : Int) < (n : Int) + 1) = true := decide_eq_true (by omega)
  have d8 : decide (0 < n + 1) = true := decide_eq_true (by omega)
  have d9 : IntKind.i64.wrap ((n : Int) + 1 - 1) = (n : Int) := by rw [IntKind.wrap_i64]; omega
  have d10 : IntKind.i64.wrap (n : Int) = (n : Int) := by rw [IntKind.wrap_i64]; omega
  have hn0 : (0 : Int) ≤ (n : Int) := by omega
  have hn1 : (n : Int) < (n : Int) + 1 := by omega
  have hbl := World.block_lt_of_cell? _ _ hc
  have hll : la.length = n + 1 := hla.lenR
  have hlbl : lb.length = m := hlb.lenR
  have HSA := Lib.hid hla
  have HSB := Lib.hid hlb
  have HNA := Lib.hid hna
  have HNB := Lib.hid hnb
  have hlaI : la.length ≤ 120 := by omega
  have hlbI : lb.length ≤ 120 := by omega
  clear hla hlb hna hnb hll hlbl
  go_enter Tryz.func3, Tryz.ntmps3
  go_wp2_with fail
  refine (HPA.out w rfl).mono ?_
  rintro x w1 ⟨kA, rfl, hrA, hbA⟩
  have HB1 : Hid (Below w.heap.size w w1) := Lib.hid hbA
  have HRA := Lib.hid hrA
  clear hrA
  clear hbA
  go_wp2_with fail
  refine (HPB.out w1 HB1.out).mono ?_
  rintro x w2 ⟨kB, rfl, hrB, hbB⟩
  have HB2 : Hid (Below w.heap.size w w2) := Lib.hid (below_thn HB1.out (Nat.le_refl _) hbB)
  have HRA2 := Lib.hid (HRA.out.next hbB)
  have HRB := Lib.hid hrB
  clear hrB
  clear hbB
  have HO0 : Hid ((w2.alloc (.cells #[] 5)).ownsRow w2.heap.size 5 1 (.slice (some ⟨w2.heap.size, 0, none⟩) 0 0) 0 []) := Lib.hid (World.ownsRow_made (base := w2.heap.size) (e := 5) (size := 1) w2 #[] 0 (Nat.le_refl _) (by unfold maxLen; omega) rfl)
  have HBa : Hid (Below w2.heap.size w2 (w2.alloc (.cells #[] 5))) := Lib.hid ((Below.refl _ _).alloc (Nat.le_refl _) _)
  have HS3 := Lib.hid (HSA.out.below (below_thn HB2.out (Nat.le_refl _) (HBa.out)))
  go_wp2_with (at_builtin; refine app_bytes rfl (.tmp 48) (.tmp 49) rfl w2.heap.size _ 0 [] rfl HO0.out _ la rfl HS3.out HNA.out (by omega) HBa.out.size ?_)
  intro v4 w4 hown4 hb4
  have HB4 := Lib.hid (HBa.out.trans hb4)
  have HO4 : Hid (w4.ownsRow w2.heap.size 5 1 v4 la.length (la.map (Value.int .u8))) := Lib.hid (by simpa using hown4)
  clear hown4 hb4
  have HB4a : Hid (∀ o, Below w2.heap.size w2 (w4.alloc o)) := Lib.hid (fun o => HB4.out.alloc HB4.out.size o)
  go_wp2_with (at_builtin; refine app_lit rfl (.tmp 50) (.tmp 51) rfl w2.heap.size _ _ la rfl (HO4.out.alloc _) _ 1 1 [124] rfl rfl (news1 _ _ _) (by omega) (HB4a.out _).size ?_)
  intro v5 w5 hown5 hb5 _
  have HB5 := Lib.hid ((HB4a.out _).trans hb5)
  have HO5 := Lib.hid hown5
  have HS5 := Lib.hid (HSB.out.below (below_thn HB2.out (Nat.le_refl _) (HB5.out)))
  clear hown5 hb5
  go_wp2_with (at_builtin; refine app_bytes rfl (.tmp 52) (.tmp 53) rfl w2.heap.size _ _ _ rfl HO5.out _ lb rfl HS5.out HNB.out (by omega) HB5.out.size ?_)
  intro v6 w6 hown6 hb6
  have HB6 := Lib.hid (HB5.out.trans hb6)
  have hown7 : w6.ownsRow w2.heap.size 5 1 v6 (barL la lb).length ((barL la lb).map (Value.int .u8)) := by
    have e : (barL la lb).length = la.length + 1 + lb.length := barL_len la lb
    rw [e]
    have e2 : (barL la lb).map (Value.int .u8) = la.map (Value.int .u8) ++ Value.int .u8 124 :: lb.map (Value.int .u8) := by unfold barL; simp
    rw [e2]
    simpa using hown6
  have HS6 : Hid (Sl w6 v6 (barL la lb)) := Lib.hid (slOwnedM hown7 (bar_byt HSA.out.1 HSB.out.1) (by rw [barL_len]; omega))
  have HV6 : Hid (∀ x o n cap, v6 = .slice (some ⟨x, o, none⟩) n cap → x < w6.heap.size) := Lib.hid (fun x o n cap e => (hown7.lt x (by rw [e]; rfl)).2)
  have HBw6 := Lib.hid (below_thn HB2.out (Nat.le_refl _) HB6.out)
  clear hown6 hb6 hown7
  have HL6 := Lib.hid (HPL.out w6 v6 HBw6.out HS6.out HV6.out)
  go_wp2_with fail
  refine HL6.out.mono ?_
  rintro x w7 ⟨kL, rfl, hrL, hbL⟩
  have HB7 : Hid (Below w.heap.size w w7) := Lib.hid (below_thn HBw6.out (Nat.le_refl _) hbL)
  have HB27 : Hid (Below w2.heap.size w2 w7) := Lib.hid (below_thn HB6.out (Nat.le_refl _) hbL)
  have HRA7 := Lib.hid (HRA2.out.next HB27.out)
  have HRB7 := Lib.hid (HRB.out.next HB27.out)
  have HRL7 := Lib.hid hrL
  clear hrL
  clear hbL
  go_wp2_with fail
  refine (HRA7.out.1 w7 (Below.refl _ _)).mono ?_
  rintro x w8 ⟨rfl, rfl⟩
  have HSB8 := Lib.hid (HSB.out.below HB7.out)
  go_wp2_with fail
  refine (groups_any _ lb _ HSB8.out (by omega)).mono ?_
  rintro x w9 ⟨rfl, rfl⟩
  go_wp2_with fail
  refine (HRB7.out _ (Below.refl _ _)).mono ?_
  rintro x w10 ⟨rfl, hb10⟩
  have HB10 := Lib.hid (below_thn HB7.out (Nat.le_refl _) hb10)
  have HRL10 := Lib.hid (HRL7.out.next hb10)
  clear hb10
  go_wp2_with fail
  refine (HRL10.out _ (Below.refl _ _)).mono ?_
  rintro x w11 ⟨rfl, hb11⟩
  have HB11 := Lib.hid (below_thn HB10.out (Nat.le_refl _) hb11)
  clear hb11
  go_upto_region 12 with fail
  obtain ⟨w12, hw12⟩ : ∃ W, W = (w11.alloc (.cells #[.int .i64 c, .int .i64 p, .int .i64 4] 30)).alloc (.cells #[.int .i64 c, .int .i64 ((p : Int) + ((n : Int) + 1 + 1)), .int .i64 4] 30) := ⟨_, rfl⟩
  rw [← hw12]
  have h11 : w12.heap[w11.heap.size]? = some (.cells #[.int .i64 c, .int .i64 p, .int .i64 4] 30 (0, 0)) := by rw [hw12]; exact blk_alloc (alloc_last _ _) _
  have h12 : w12.heap[w11.heap.size + 1]? = some (.cells #[.int .i64 c, .int .i64 ((p : Int) + ((n : Int) + 1 + 1)), .int .i64 4] 30 (0, 0)) := by rw [hw12]; have := alloc_last (w11.alloc (.cells #[.int .i64 c, .int .i64 p, .int .i64 4] 30)) (.cells #[.int .i64 c, .int .i64 ((p : Int) + ((n : Int) + 1 + 1)), .int .i64 4] 30); simpa using this
  have HB12 : Hid (Below w.heap.size w w12) := Lib.hid (by rw [hw12]; exact (HB11.out.alloc HB11.out.size _).alloc (by have := HB11.out.size; simp; omega) _)
  have y0 : w12.cell? ⟨w11.heap.size, 0, none⟩ = some (.int .i64 c) := (Lib.cell_of_heap h11 0).trans rfl
  have y1 : w12.cell? ⟨w11.heap.size, 1, none⟩ = some (.int .i64 p) := (Lib.cell_of_heap h11 1).trans rfl
  have z0 : w12.cell? ⟨w11.heap.size + 1, 0, none⟩ = some (.int .i64 c) := (Lib.cell_of_heap h12 0).trans rfl
  have z1 : w12.cell? ⟨w11.heap.size + 1, 1, none⟩ = some (.int .i64 ((p : Int) + ((n : Int) + 1 + 1))) := (Lib.cell_of_heap h12 1).trans rfl
  have hz1 := lt_blkB h11
  have hz2 := lt_blkB h12
  have e7 : (((p : Int) + ((n : Int) + 1 + 1)) == ((p : Int) + ((n : Int) + 1) + 1)) = true := by simp; omega
  have e8 : decide (((p : Int) + ((n : Int) + 1 + 1)) = ((p : Int) + ((n : Int) + 1) + 1)) = true := decide_eq_true (by omega)
  clear hw12 h11 h12
  go_wp2_with fail
  refine (HA.out _ HB12.out).mono ?_
  rintro x wz ⟨rfl, hbz⟩
  have HZ := Lib.hid (below_thn HB12.out (Nat.le_refl _) hbz)
  clear hbz
  go_wp2
  go_ret
  exact ⟨rfl, HZ.out⟩
def EiR (tA tB : Nd) (j : Nat) (x : Value) (X : World) : Prop := (j = 8 → ∃ S a m c, x = tA.v (.slice a m c) ∧ tA.In X S (.slice a m c)) ∧ (j = 11 → ∃ S a m c, x = tB.v (.slice a m c) ∧ tB.In X S (.slice a m c))
theorem EiR.next {tA tB : Nd} {j : Nat} {x : Value} {X X' : World} (h : EiR tA tB j x X) (hb : Below X.heap.size X X') : EiR tA tB j x X' :=
  ⟨fun e => by obtain ⟨S, a, m, c, h1, h2⟩ := h.1 e; exact ⟨S, a, m, c, h1, h2.below hb⟩, fun e => by obtain ⟨S, a, m, c, h1, h2⟩ := h.2 e; exact ⟨S, a, m, c, h1, h2.below hb⟩⟩
set_option maxRecDepth 100000 in
set_option maxHeartbeats 16000000 in
theorem ei_ok (w : World) (b o : Nat) (vb : Option Addr) (n m ca cb : Nat) (hn : n + 1 ≤ 120) (hm : m ≤ 120) (c92 : Int) (hc : w.cell? ⟨b, o + n, none⟩ = some (.int .u8 c92)) (hc9 : (c92 == 92) = false) (tA tB t : Nd) (g g2 : Nat) (hg2 : g2 ≤ 9) (ht5 : t.kd = 5) (htk : t.kids.len = brN tA + brN tB) (hbr1 : brN tA ≤ 100000) (hbr2 : brN tB ≤ 100000)
    (la lb : List Int) (hla : Sl w (.slice (some ⟨b, o, none⟩) (n + 1) ca) la) (hlb : Sl w (.slice vb m cb) lb) (hna : ∀ n' c', (.slice (some ⟨b, o, none⟩) (n + 1) ca) = Value.slice none n' c' → n' = 0 ∧ c' = 0) (hnb : ∀ n' c', (.slice vb m cb) = Value.slice none n' c' → n' = 0 ∧ c' = 0)
    (HPA : Hid (∀ X, X = w → Calls Tryz.prog 5 #[.slice (some ⟨b, o, none⟩) (n + 1) ca, .bool true] X fun x w' => ∃ p, x = .returned (.tuple #[.pointer (some ⟨p, 0, none⟩), .nilIface]) ∧ ParOk tA g p w' ∧ Below X.heap.size X w'))
    (HPB : Hid (∀ X, Below w.heap.size w X → Calls Tryz.prog 5 #[.slice vb m cb, .bool true] X fun x w' => ∃ p, x = .returned (.tuple #[.pointer (some ⟨p, 0, none⟩), .nilIface]) ∧ ParOk tB g2 p w' ∧ Below X.heap.size X w'))
    (HPL : Hid (∀ X v, Below w.heap.size w X → Sl X v (barL la lb) → (∀ x o n cap, v = .slice (some ⟨x, o, none⟩) n cap → x < X.heap.size) → Calls Tryz.prog 5 #[v, .bool true] X fun x w' => ∃ p, x = .returned (.tuple #[.pointer (some ⟨p, 0, none⟩), .nilIface]) ∧ ParOk t (g + g2) p w' ∧ Below X.heap.size X w'))
    (hgm : g + cnt lb ≤ 9)
    (HA : Hid (∀ X, Below w.heap.size w X → Calls Tryz.prog 4 #[] X fun x w' => x = .returned (.bool true) ∧ Below X.heap.size X w')) :
    Calls Tryz.prog 3 #[.slice (some ⟨b, o, none⟩) (n + 1) ca, .slice vb m cb] w fun x w' => x = .returned (.bool true) ∧ Below w.heap.size w w' := by
  have f1 : decide ((9 : Int) < (g : Int) + (cnt lb : Int)) = false := decide_eq_false (by omega)
  have f2 : decide (9 < g + cnt lb) = false := decide_eq_false (by omega)
  have f3 : IntKind.i64.wrap ((g : Int) + (cnt lb : Int)) = (g : Int) + (cnt lb : Int) := by rw [IntKind.wrap_i64]; omega
  have f4 : IntKind.i64.wrap ((g : Int) + (g2 : Int)) = (g : Int) + (g2 : Int) := by rw [IntKind.wrap_i64]; omega
  have f6 : decide (((g : Int) + (g2 : Int)) = ((g : Int) + (g2 : Int))) = true := decide_eq_true rfl
  have d5 : decide ((120 : Int) < (n : Int) + 1) = false := decide_eq_false (by omega)
  have d6 : decide (120 < n + 1) = false := decide_eq_false (by omega)
  have d2 : decide ((120 : Int) < (m : Int)) = false := decide_eq_false (by omega)
  have d4 : decide (120 < m) = false := decide_eq_false (by omega)
  have d7 : decide ((0 : Int) < (n : Int) + 1) = true := decide_eq_true (by omega)
  have d8 : decide (0 < n + 1) = true := decide_eq_true (by omega)
  have d9 : IntKind.i64.wrap ((n : Int) + 1 - 1) = (n : Int) := by rw [IntKind.wrap_i64]; omega
  have d10 : IntKind.i64.wrap (n : Int) = (n : Int) := by rw [IntKind.wrap_i64]; omega
  have hn0 : (0 : Int) ≤ (n : Int) := by omega
  have hn1 : (n : Int) < (n : Int) + 1 := by omega
  have hbl := World.block_lt_of_cell? _ _ hc
  have hll : la.length = n + 1 := hla.lenR
  have hlbl : lb.length = m := hlb.lenR
  have HSA := Lib.hid hla
  have HSB := Lib.hid hlb
  have HNA := Lib.hid hna
  have HNB := Lib.hid hnb
  have hlaI : la.length ≤ 120 := by omega
  have hlbI : lb.length ≤ 120 := by omega
  clear hla hlb hna hnb hll hlbl
  go_enter Tryz.func3, Tryz.ntmps3
  go_wp2_with fail
  refine (HPA.out w rfl).mono ?_
  rintro x w1 ⟨kA, rfl, hrA, hbA⟩
  have HB1 : Hid (Below w.heap.size w w1) := Lib.hid hbA
  have HRA := Lib.hid hrA
  clear hrA
  clear hbA
  go_wp2_with fail
  refine (HPB.out w1 HB1.out).mono ?_
  rintro x w2 ⟨kB, rfl, hrB, hbB⟩
  have HB2 : Hid (Below w.heap.size w w2) := Lib.hid (below_thn HB1.out (Nat.le_refl _) hbB)
  have HRA2 := Lib.hid (HRA.out.next hbB)
  have HRB := Lib.hid hrB
  clear hrB
  clear hbB
  have HO0 : Hid ((w2.alloc (.cells #[] 5)).ownsRow w2.heap.size 5 1 (.slice (some ⟨w2.heap.size, 0, none⟩) 0 0) 0 []) := Lib.hid (World.ownsRow_made (base := w2.heap.size) (e := 5) (size := 1) w2 #[] 0 (Nat.le_refl _) (by unfold maxLen; omega) rfl)
  have HBa : Hid (Below w2.heap.size w2 (w2.alloc (.cells #[] 5))) := Lib.hid ((Below.refl _ _).alloc (Nat.le_refl _) _)
  have HS3 := Lib.hid (HSA.out.below (below_thn HB2.out (Nat.le_refl _) (HBa.out)))
  go_wp2_with (at_builtin; refine app_bytes rfl (.tmp 48) (.tmp 49) rfl w2.heap.size _ 0 [] rfl HO0.out _ la rfl HS3.out HNA.out (by omega) HBa.out.size ?_)
  intro v4 w4 hown4 hb4
  have HB4 := Lib.hid (HBa.out.trans hb4)
  have HO4 : Hid (w4.ownsRow w2.heap.size 5 1 v4 la.length (la.map (Value.int .u8))) := Lib.hid (by simpa using hown4)
  clear hown4 hb4
  have HB4a : Hid (∀ o, Below w2.heap.size w2 (w4.alloc o)) := Lib.hid (fun o => HB4.out.alloc HB4.out.size o)
  go_wp2_with (at_builtin; refine app_lit rfl (.tmp 50) (.tmp 51) rfl w2.heap.size _ _ la rfl (HO4.out.alloc _) _ 1 1 [124] rfl rfl (news1 _ _ _) (by omega) (HB4a.out _).size ?_)
  intro v5 w5 hown5 hb5 _
  have HB5 := Lib.hid ((HB4a.out _).trans hb5)
  have HO5 := Lib.hid hown5
  have HS5 := Lib.hid (HSB.out.below (below_thn HB2.out (Nat.le_refl _) (HB5.out)))
  clear hown5 hb5
  go_wp2_with (at_builtin; refine app_bytes rfl (.tmp 52) (.tmp 53) rfl w2.heap.size _ _ _ rfl HO5.out _ lb rfl HS5.out HNB.out (by omega) HB5.out.size ?_)
  intro v6 w6 hown6 hb6
  have HB6 := Lib.hid (HB5.out.trans hb6)
  have hown7 : w6.ownsRow w2.heap.size 5 1 v6 (barL la lb).length ((barL la lb).map (Value.int .u8)) := by
    have e : (barL la lb).length = la.length + 1 + lb.length := barL_len la lb
    rw [e]
    have e2 : (barL la lb).map (Value.int .u8) = la.map (Value.int .u8) ++ Value.int .u8 124 :: lb.map (Value.int .u8) := by unfold barL; simp
    rw [e2]
    simpa using hown6
  have HS6 : Hid (Sl w6 v6 (barL la lb)) := Lib.hid (slOwnedM hown7 (bar_byt HSA.out.1 HSB.out.1) (by rw [barL_len]; omega))
  have HV6 : Hid (∀ x o n cap, v6 = .slice (some ⟨x, o, none⟩) n cap → x < w6.heap.size) := Lib.hid (fun x o n cap e => (hown7.lt x (by rw [e]; rfl)).2)
  have HBw6 := Lib.hid (below_thn HB2.out (Nat.le_refl _) HB6.out)
  clear hown6 hb6 hown7
  have HL6 := Lib.hid (HPL.out w6 v6 HBw6.out HS6.out HV6.out)
  go_wp2_with fail
  refine HL6.out.mono ?_
  rintro x w7 ⟨kL, rfl, hrL, hbL⟩
  have HB7 : Hid (Below w.heap.size w w7) := Lib.hid (below_thn HBw6.out (Nat.le_refl _) hbL)
  have HB27 : Hid (Below w2.heap.size w2 w7) := Lib.hid (below_thn HB6.out (Nat.le_refl _) hbL)
  have HRA7 := Lib.hid (HRA2.out.next HB27.out)
  have HRB7 := Lib.hid (HRB.out.next HB27.out)
  have HRL7 := Lib.hid hrL
  clear hrL
  clear hbL
  go_wp2_with fail
  refine (HRA7.out.1 w7 (Below.refl _ _)).mono ?_
  rintro x w8 ⟨rfl, rfl⟩
  have HSB8 := Lib.hid (HSB.out.below HB7.out)
  go_wp2_with fail
  refine (groups_any _ lb _ HSB8.out (by omega)).mono ?_
  rintro x w9 ⟨rfl, rfl⟩
  go_wp2_with fail
  refine (HRL7.out.1 _ (Below.refl _ _)).mono ?_
  rintro x w10 ⟨rfl, rfl⟩
  go_wp2_with fail
  refine (HRA7.out.1 _ (Below.refl _ _)).mono ?_
  rintro x w11 ⟨rfl, rfl⟩
  go_wp2_with fail
  refine (HRB7.out.1 _ (Below.refl _ _)).mono ?_
  rintro x w12 ⟨rfl, rfl⟩
  go_wp2_with fail
  refine (HRL7.out.2 _ (Below.refl _ _)).mono ?_
  unfold ClP
  rintro x w13 ⟨ta, tm, tc, rfl, hti, hb13⟩
  obtain ⟨l, hl⟩ : ∃ l, t.kids = fo l := ⟨t.kids.toL, (fo_toL _).symm⟩
  have htm : tm = brN tA + brN tB := by rw [← htk, hl, fo_len]; exact kid_len hl hti
  obtain ⟨W6, hW6⟩ : ∃ W6, W6 = w13.alloc (.cells zero9 39) := ⟨_, rfl⟩
  have hT6 : W6.heap[w13.heap.size]? = some (.cells zero9 39 (0, 0)) := by rw [hW6]; exact alloc_last _ _
  obtain ⟨W7, hW7⟩ : ∃ W7, W7 = W6.setRow w13.heap.size (t.cells (.slice ta tm tc)).toArray := ⟨_, rfl⟩
  have hb7 : Below w13.heap.size w13 W7 := by rw [hW7, hW6]; exact below_setRow ((Below.refl _ _).alloc (Nat.le_refl _) _) (Nat.le_refl _) _
  have hT7 : W7.heap[w13.heap.size]? = some (.cells (t.cells (.slice ta tm tc)).toArray 39 (0, 0)) := by rw [hW7]; exact setRow_selfR hT6 _
  have HT6 := Lib.hid hT6
  have HT7 := Lib.hid hT7
  have HW6 := Lib.hid hW6
  have HW7 := Lib.hid hW7
  have hbz := below_thn hb13 (Nat.le_refl _) hb7
  have HBZ : Hid (Below w.heap.size w W7) := Lib.hid (below_thn HB7.out (Nat.le_refl _) hbz)
  have HRAZ := Lib.hid (HRA7.out.next hbz)
  have HRBZ := Lib.hid (HRB7.out.next hbz)
  have hz7 := lt_blkB hT7
  have C0 : Hid (W7.cell? ⟨w13.heap.size, 0, none⟩ = some (.int .i64 5)) := Lib.hid ((Lib.cell_of_heap hT7 0).trans (by rw [← ht5]; rfl))
  have C8 : Hid (W7.cell? ⟨w13.heap.size, 8, none⟩ = some (.slice ta tm tc)) := Lib.hid ((Lib.cell_of_heap hT7 8).trans rfl)
  have HTM := Lib.hid htm
  have htmi : (tm : Int) = (brN tA : Int) + (brN tB : Int) := by omega
  have HQ1 : Hid (((tm : Int) == (brN tA : Int) + (brN tB : Int)) = true) := Lib.hid (by rw [htmi]; simp)
  have HQ2 : Hid (decide ((tm : Int) = (brN tA : Int) + (brN tB : Int)) = true) := Lib.hid (decide_eq_true htmi)
  have HQ3 : Hid (IntKind.i64.wrap ((brN tA : Int) + (brN tB : Int)) = (brN tA : Int) + (brN tB : Int)) := Lib.hid (by rw [IntKind.wrap_i64]; omega)
  have HZ0 : Hid (Below W7.heap.size W7 W7.drew) := Lib.hid (Below.refl _ _).drew
  clear hti hb13 hl htm htmi hW6 hT6 hW7 hT7 hb7 hbz
  have HNV : Hid (t.v (.slice ta tm tc) = .agg (t.cells (.slice ta tm tc)).toArray) := Lib.hid rfl
  unfold zero9 at HW6
  go_upto_region 16 with (first | (rw [← HW6.out]; refine wpList_store_re rfl _ _ rfl rfl w13.heap.size t ta tm tc rfl rfl _ HT6.out rfl ?_; rw [← HW7.out]) | fail)
  clear HT6 HW6 HW7
  refine Reg.wp_region_vals (fun X => Below W7.heap.size W7 X) (fun j => ([some (.pointer (some ⟨w13.heap.size, 0, none⟩)), some (.int .i64 5), some (.bool true), some (.bool true), some (.pointer (some ⟨w13.heap.size, 8, none⟩)), some (.slice ta tm tc), some (.int .i64 tm), some (.pointer (some ⟨kA, 0, none⟩)), none, some (.int .i64 (brN tA : Nat)), some (.pointer (some ⟨kB, 0, none⟩)), none, some (.int .i64 (brN tB : Nat)), some (.int .i64 ((brN tA : Int) + (brN tB : Int))), some (.bool true), some (.bool true), some (.bool true), some (.bool true), some (.bool true), some (.bool true)] : List (Option Value)).getD j none) (EiR tA tB) (by kernel_rfl) (by kernel_rfl) (by kernel_rfl) (by kernel_rfl) ?rs0 ?rsE ?rsZ
  case rs0 => exact HZ0.out
  case rsE =>
    refine Reg.EachV.plain rfl (fun T X hS hk K hK => ?_) ?_
    · skip
      have g13 : T[13]? = some (.pointer (some ⟨w13.heap.size, 0, none⟩)) := hk.old 13 (by kernel_rfl) rfl
      have hK := hK _ X hS (Reg.Is.of_val rfl) (fun _ _ _ h => h)
      clear hk
      go_simp
      exact hK
    refine Reg.EachV.plain rfl (fun T X hS hk K hK => ?_) ?_
    · skip
      have g127 : T[127]? = some (.pointer (some ⟨w13.heap.size, 0, none⟩)) := hk.val 0 127 (by kernel_rfl) (by kernel_rfl) rfl
      have c0 := (hS.cell (World.block_lt_of_cell? _ _ C0.out)).trans C0.out
      have hzx := hS.size
      have hK := hK _ X hS (Reg.Is.of_val rfl) (fun _ _ _ h => h)
      clear hk
      go_simp
      exact hK
    refine Reg.EachV.plain rfl (fun T X hS hk K hK => ?_) ?_
    · skip
      have g128 : T[128]? = some (.int .i64 5) := hk.val 1 128 (by kernel_rfl) (by kernel_rfl) rfl
      have hK := hK _ X hS (Reg.Is.of_val rfl) (fun _ _ _ h => h)
      clear hk
      go_simp
      exact hK
    refine Reg.EachV.plain rfl (fun T X hS hk K hK => ?_) ?_
    · skip
      have g129 : T[129]? = some (.bool true) := hk.val 2 129 (by kernel_rfl) (by kernel_rfl) rfl
      have hK := hK _ X hS (Reg.Is.of_val rfl) (fun _ _ _ h => h)
      clear hk
      go_simp
      exact hK
    refine Reg.EachV.guarded 3 130 true rfl (by kernel_rfl) (by kernel_rfl) rfl (fun T X hS hk K hK => ?_) ?_
    · skip
      have g13 : T[13]? = some (.pointer (some ⟨w13.heap.size, 0, none⟩)) := hk.old 13 (by kernel_rfl) rfl
      have hK := hK _ X hS (Reg.Is.of_val rfl) (fun _ _ _ h => h)
      clear hk
      go_simp
      exact hK
    refine Reg.EachV.guarded 3 130 true rfl (by kernel_rfl) (by kernel_rfl) rfl (fun T X hS hk K hK => ?_) ?_
    · skip
      have g131 : T[131]? = some (.pointer (some ⟨w13.heap.size, 8, none⟩)) := hk.val 4 131 (by kernel_rfl) (by kernel_rfl) rfl
      have c8 := (hS.cell (World.block_lt_of_cell? _ _ C8.out)).trans C8.out
      have hzx := hS.size
      have hK := hK _ X hS (Reg.Is.of_val rfl) (fun _ _ _ h => h)
      clear hk
      go_simp
      exact hK
    refine Reg.EachV.guarded 3 130 true rfl (by kernel_rfl) (by kernel_rfl) rfl (fun T X hS hk K hK => ?_) ?_
    · skip
      have g132 : T[132]? = some (.slice ta tm tc) := hk.val 5 132 (by kernel_rfl) (by kernel_rfl) rfl
      have hK := hK _ X hS (Reg.Is.of_val rfl) (fun _ _ _ h => h)
      clear hk
      go_simp
      exact hK
    refine Reg.EachV.guarded 3 130 true rfl (by kernel_rfl) (by kernel_rfl) rfl (fun T X hS hk K hK => ?_) ?_
    · skip
      have g5 : T[5]? = some (.pointer (some ⟨kA, 0, none⟩)) := hk.old 5 (by kernel_rfl) rfl
      have hK := hK _ X hS (Reg.Is.of_val rfl) (fun _ _ _ h => h)
      clear hk
      go_simp
      exact hK
    refine Reg.EachV.guarded 3 130 true rfl (by kernel_rfl) (by kernel_rfl) rfl (fun T X hS hk K hK => ?_) ?_
    · skip
      have g134 : T[134]? = some (.pointer (some ⟨kA, 0, none⟩)) := hk.val 7 134 (by kernel_rfl) (by kernel_rfl) rfl
      clear hk
      go_simp
      refine ((show Calls _ _ _ X (fun x w' => ∃ a m c, x = .returned (tA.v (.slice a m c)) ∧ tA.In w' (fun b => X.heap.size ≤ b) (.slice a m c) ∧ Below X.heap.size X w') from HRAZ.out.2 X hS)).mono ?_
      rintro e w1 ⟨xa, xm, xc, rfl, hxi, hb⟩
      exact hK _ _ (below_thn hS (Nat.le_refl _) hb) (Reg.Is.of_prop rfl ⟨fun _ => ⟨_, xa, xm, xc, rfl, hxi⟩, fun h => (by cases h)⟩) (fun _ _ _ h => EiR.next h hb)
    refine Reg.EachV.guarded 3 130 true rfl (by kernel_rfl) (by kernel_rfl) rfl (fun T X hS hk K hK => ?_) ?_
    · skip
      obtain ⟨x135, g135, r135⟩ := hk.prop 8 135 (by kernel_rfl) (by kernel_rfl) rfl
      obtain ⟨Sx, xa, xm, xc, rfl, hxi⟩ := r135.1 rfl
      clear hk
      go_simp
      refine (branches_any tA _ _ X hxi).mono ?_
      rintro e w1 ⟨rfl, hb⟩
      exact hK _ _ (below_thn hS (Nat.le_refl _) hb) (Reg.Is.of_val rfl) (fun _ _ _ h => EiR.next h hb)
    refine Reg.EachV.guarded 3 130 true rfl (by kernel_rfl) (by kernel_rfl) rfl (fun T X hS hk K hK => ?_) ?_
    · skip
      have g7 : T[7]? = some (.pointer (some ⟨kB, 0, none⟩)) := hk.old 7 (by kernel_rfl) rfl
      have hK := hK _ X hS (Reg.Is.of_val rfl) (fun _ _ _ h => h)
      clear hk
      go_simp
      exact hK
    refine Reg.EachV.guarded 3 130 true rfl (by kernel_rfl) (by kernel_rfl) rfl (fun T X hS hk K hK => ?_) ?_
    · skip
      have g137 : T[137]? = some (.pointer (some ⟨kB, 0, none⟩)) := hk.val 10 137 (by kernel_rfl) (by kernel_rfl) rfl
      clear hk
      go_simp
      refine ((show Calls _ _ _ X (fun x w' => ∃ a m c, x = .returned (tB.v (.slice a m c)) ∧ tB.In w' (fun b => X.heap.size ≤ b) (.slice a m c) ∧ Below X.heap.size X w') from HRBZ.out.2 X hS)).mono ?_
      rintro e w1 ⟨xa, xm, xc, rfl, hxi, hb⟩
      exact hK _ _ (below_thn hS (Nat.le_refl _) hb) (Reg.Is.of_prop rfl ⟨fun h => (by cases h), fun _ => ⟨_, xa, xm, xc, rfl, hxi⟩⟩) (fun _ _ _ h => EiR.next h hb)
    refine Reg.EachV.guarded 3 130 true rfl (by kernel_rfl) (by kernel_rfl) rfl (fun T X hS hk K hK => ?_) ?_
    · skip
      obtain ⟨x138, g138, r138⟩ := hk.prop 11 138 (by kernel_rfl) (by kernel_rfl) rfl
      obtain ⟨Sx, xa, xm, xc, rfl, hxi⟩ := r138.2 rfl
      clear hk
      go_simp
      refine (branches_any tB _ _ X hxi).mono ?_
      rintro e w1 ⟨rfl, hb⟩
      exact hK _ _ (below_thn hS (Nat.le_refl _) hb) (Reg.Is.of_val rfl) (fun _ _ _ h => EiR.next h hb)
    refine Reg.EachV.guarded 3 130 true rfl (by kernel_rfl) (by kernel_rfl) rfl (fun T X hS hk K hK => ?_) ?_
    · skip
      have g136 : T[136]? = some (.int .i64 (brN tA : Nat)) := hk.val 9 136 (by kernel_rfl) (by kernel_rfl) rfl
      have g139 : T[139]? = some (.int .i64 (brN tB : Nat)) := hk.val 12 139 (by kernel_rfl) (by kernel_rfl) rfl
      have q3 := HQ3.out
      have hK := hK _ X hS (Reg.Is.of_val rfl) (fun _ _ _ h => h)
      clear hk
      go_simp
      exact hK
    refine Reg.EachV.guarded 3 130 true rfl (by kernel_rfl) (by kernel_rfl) rfl (fun T X hS hk K hK => ?_) ?_
    · skip
      have g133 : T[133]? = some (.int .i64 tm) := hk.val 6 133 (by kernel_rfl) (by kernel_rfl) rfl
      have g140 : T[140]? = some (.int .i64 ((brN tA : Int) + (brN tB : Int))) := hk.val 13 140 (by kernel_rfl) (by kernel_rfl) rfl
      have q1 := HQ1.out
      have q2 := HQ2.out
      have hK := hK _ X hS (Reg.Is.of_val rfl) (fun _ _ _ h => h)
      clear hk
      go_simp
      exact hK
    refine Reg.EachV.plain rfl (fun T X hS hk K hK => ?_) ?_
    · skip
      have g130 : T[130]? = some (.bool true) := hk.val 3 130 (by kernel_rfl) (by kernel_rfl) rfl
      have g141 : T[141]? = some (.bool true) := hk.val 14 141 (by kernel_rfl) (by kernel_rfl) rfl
      have hK := hK _ X hS (Reg.Is.of_val rfl) (fun _ _ _ h => h)
      clear hk
      go_simp
      exact hK
    refine Reg.EachV.plain rfl (fun T X hS hk K hK => ?_) ?_
    · skip
      have g142 : T[142]? = some (.bool true) := hk.val 15 142 (by kernel_rfl) (by kernel_rfl) rfl
      have hK := hK _ X hS (Reg.Is.of_val rfl) (fun _ _ _ h => h)
      clear hk
      go_simp
      exact hK
    refine Reg.EachV.guarded 16 143 true rfl (by kernel_rfl) (by kernel_rfl) rfl (fun T X hS hk K hK => ?_) ?_
    · skip
      clear hk
      go_simp
      refine (HA.out X (below_thn HBZ.out (Nat.le_refl _) hS)).mono ?_
      rintro e w1 ⟨rfl, hb⟩
      exact hK _ _ (below_thn hS (Nat.le_refl _) hb) (Reg.Is.of_val rfl) (fun _ _ _ h => EiR.next h hb)
    refine Reg.EachV.plain rfl (fun T X hS hk K hK => ?_) ?_
    · skip
      have g143 : T[143]? = some (.bool true) := hk.val 16 143 (by kernel_rfl) (by kernel_rfl) rfl
      have g144 : T[144]? = some (.bool true) := hk.val 17 144 (by kernel_rfl) (by kernel_rfl) rfl
      have hK := hK _ X hS (Reg.Is.of_val rfl) (fun _ _ _ h => h)
      clear hk
      go_simp
      exact hK
    refine Reg.EachV.plain rfl (fun T X hS hk K hK => ?_) ?_
    · skip
      have g145 : T[145]? = some (.bool true) := hk.val 18 145 (by kernel_rfl) (by kernel_rfl) rfl
      have hK := hK _ X hS (Reg.Is.of_val rfl) (fun _ _ _ h => h)
      clear hk
      go_simp
      exact hK
    exact Reg.EachV.nil
  case rsZ =>
    intro u w1 hS hI
    have e0 : u 0 = .pointer (some ⟨w13.heap.size, 0, none⟩) := (hI 0 (by decide)).val rfl
    have e1 : u 1 = .int .i64 5 := (hI 1 (by decide)).val rfl
    have e2 : u 2 = .bool true := (hI 2 (by decide)).val rfl
    have e3 : u 3 = .bool true := (hI 3 (by decide)).val rfl
    have e4 : u 4 = .pointer (some ⟨w13.heap.size, 8, none⟩) := (hI 4 (by decide)).val rfl
    have e5 : u 5 = .slice ta tm tc := (hI 5 (by decide)).val rfl
    have e6 : u 6 = .int .i64 tm := (hI 6 (by decide)).val rfl
    have e7 : u 7 = .pointer (some ⟨kA, 0, none⟩) := (hI 7 (by decide)).val rfl
    have e8 := (hI 8 (by decide)).prop rfl
    have e9 : u 9 = .int .i64 (brN tA : Nat) := (hI 9 (by decide)).val rfl
    have e10 : u 10 = .pointer (some ⟨kB, 0, none⟩) := (hI 10 (by decide)).val rfl
    have e11 := (hI 11 (by decide)).prop rfl
    have e12 : u 12 = .int .i64 (brN tB : Nat) := (hI 12 (by decide)).val rfl
    have e13 : u 13 = .int .i64 ((brN tA : Int) + (brN tB : Int)) := (hI 13 (by decide)).val rfl
    have e14 : u 14 = .bool true := (hI 14 (by decide)).val rfl
    have e15 : u 15 = .bool true := (hI 15 (by decide)).val rfl
    have e16 : u 16 = .bool true := (hI 16 (by decide)).val rfl
    have e17 : u 17 = .bool true := (hI 17 (by decide)).val rfl
    have e18 : u 18 = .bool true := (hI 18 (by decide)).val rfl
    have e19 : u 19 = .bool true := (hI 19 (by decide)).val rfl
    clear hI
    simp only [Reg.putAll, Act.put, List.setIfInBounds_toArray, List.set_cons_succ, List.set_cons_zero, Nat.zero_add, Nat.reduceAdd, e0, e1, e2, e3, e4, e5, e6, e7, e9, e10, e12, e13, e14, e15, e16, e17, e18, e19]
    clear e0 e1 e2 e3 e4 e5 e6 e7 e9 e10 e12 e13 e14 e15 e16 e17 e18 e19
    have HZ := Lib.hid (below_thn HBZ.out (Nat.le_refl _) hS)
    clear hS
    go_wp2
    go_ret
    exact ⟨rfl, HZ.out⟩
end Go.Proofs.YthmgcebonplcgaaGreatDoor
/- RetextEither: opened. -/
namespace Go.Proofs.YthmgcebonplcgaaGreatDoor
open Go.RowKit

/-- What the walks stand on. -/
structure EiC (cf : ByteArray → (Nat → Bool) × Bool) (e : Nat → Addr) (w : World) : Prop where
  cf : ClassOk cf
  snt : Snt w e
  ety : Ety w
theorem EiC.es {cf : ByteArray → (Nat → Bool) × Bool} {e : Nat → Addr} {w : World} (h : EiC cf e w) {X : World} (hX : Below w.heap.size w X) : Es X X.heap.size e := ⟨((snt_es h.snt).below hX).var, Nat.lt_of_lt_of_le (snt_es h.snt).low hX.size, Nat.le_refl _⟩
theorem pa_bad {cf : ByteArray → (Nat → Bool) × Bool} {e : Nat → Addr} {w : World} (h : EiC cf e w) {X : World} (hX : Below w.heap.size w X) {v : Value} {l : List Int} (hs : Sl X v l) (hnb : ∀ x o n cap, v = .slice (some ⟨x, o, none⟩) n cap → x < X.heap.size) {n c p : Nat} (hr : parseN cf l true n = some (.bad c p)) :
    Calls Tryz.prog 5 #[v, .bool true] X fun x w' => ∃ k, x = .returned (.tuple #[.pointer none, .iface 64 (.pointer (some ⟨k, 0, none⟩))]) ∧ ParNo c p k w' ∧ Below X.heap.size X w' := by
  obtain ⟨h1, h2, _, _⟩ := parse_codes hr
  refine (parse_any cf e v l (bkC_of h.cf _) true n _ X (h.es hX) (h.ety.below hX) hs hnb hr).mono ?_
  rintro x w' ⟨k, rfl, her, hb⟩
  exact ⟨k, rfl, fun Y hY => tell_errS (h.snt.below (below_thn hX (Nat.le_refl _) (below_thn hb (Nat.le_refl _) hY))) h1 (by omega) (ErrS.below her hY), hb⟩
theorem pa_good {cf : ByteArray → (Nat → Bool) × Bool} {e : Nat → Addr} {w : World} (h : EiC cf e w) {X : World} (hX : Below w.heap.size w X) {v : Value} {l : List Int} (hs : Sl X v l) (hnb : ∀ x o n cap, v = .slice (some ⟨x, o, none⟩) n cap → x < X.heap.size) {n k g : Nat} {t : Nd} (hr : parseN cf l true n = some (.ok t k g)) :
    Calls Tryz.prog 5 #[v, .bool true] X fun x w' => ∃ p, x = .returned (.tuple #[.pointer (some ⟨p, 0, none⟩), .nilIface]) ∧ ParOk t g p w' ∧ Below X.heap.size X w' := by
  have hf := parseN_fit hs.1 hr
  have hsz : t.sz ≤ 1000000 := by have := hf.2; omega
  refine (parse_any cf e v l (bkC_of h.cf _) true n _ X (h.es hX) (h.ety.below hX) hs hnb hr).mono ?_
  rintro x w' ⟨p, a, m, c, rfl, hp, hrow, hin, hb⟩
  exact ⟨p, rfl, ⟨fun Y hY => Groups_at Y p t (.slice a m c) g true (blk_below hrow hY), fun Y hY => Tree_at (fun b => X.heap.size ≤ b) Y p t (.slice a m c) g true (blk_below hrow hY) hsz (hin.below hY)⟩, hb⟩
theorem pa_any {cf : ByteArray → (Nat → Bool) × Bool} {e : Nat → Addr} {w : World} (h : EiC cf e w) {X : World} (hX : Below w.heap.size w X) {v : Value} {l : List Int} (hs : Sl X v l) (hnb : ∀ x o n cap, v = .slice (some ⟨x, o, none⟩) n cap → x < X.heap.size) :
    Calls Tryz.prog 5 #[v, .bool true] X fun x w' => ∃ u1 u2, x = .returned (.tuple #[u1, u2]) ∧ Below X.heap.size X w' := by
  obtain ⟨r, hr⟩ := parseN_some cf l true
  cases r with
  | bad c p =>
    refine (pa_bad h hX hs hnb hr).mono ?_
    rintro x w' ⟨k, rfl, _, hb⟩
    exact ⟨_, _, rfl, hb⟩
  | ok t k g =>
    refine (pa_good h hX hs hnb hr).mono ?_
    rintro x w' ⟨p, rfl, _, hb⟩
    exact ⟨_, _, rfl, hb⟩
theorem brN_le {t : Nd} (h : t.sz ≤ 1026) : brN t ≤ 100000 := by
  unfold brN
  have := fo_sz_len t.kids
  unfold Nd.sz at h
  split <;> omega
theorem cnt_le (l : List Int) : cnt l ≤ l.length := List.count_le_length
set_option maxRecDepth 100000 in
theorem reither_any {cf : ByteArray → (Nat → Bool) × Bool} (hnob : NoBar cf) {e : Nat → Addr} {w : World} (h : EiC cf e w) (v0 v1 : Value) (la lb : List Int) (hs0 : Sl w v0 la) (hs1 : Sl w v1 lb) (hb0 : ∀ x o n cap, v0 = .slice (some ⟨x, o, none⟩) n cap → x < w.heap.size) (hb1 : ∀ x o n cap, v1 = .slice (some ⟨x, o, none⟩) n cap → x < w.heap.size)
    (hn0 : ∀ n c, v0 = .slice none n c → n = 0 ∧ c = 0) (hn1 : ∀ n c, v1 = .slice none n c → n = 0 ∧ c = 0) (hT : TZ w) (hD : DB w) (hP : TPr w) :
    Calls Tryz.prog 3 #[v0, v1] w fun x w' => x = .returned (.bool true) ∧ Below w.heap.size w w' := by
  have HA : Hid (∀ X, Below w.heap.size w X → Calls Tryz.prog 4 #[] X fun x w' => x = .returned (.bool true) ∧ Below X.heap.size X w') := Lib.hid (fun X hX => awake8_any cf h.cf e X (h.es hX) (h.ety.below hX) (hT.below hX) (hD.below hX) (hP.below hX))
  obtain ⟨va, ca, rfl⟩ := sl_shapeL hs0
  obtain ⟨vb, cb, rfl⟩ := sl_shapeL hs1
  by_cases h120 : 120 < la.length
  · exact ei_1 w va vb la.length lb.length ca cb h120 HA
  by_cases m120 : 120 < lb.length
  · exact ei_2 w va vb la.length lb.length ca cb h120 m120 HA
  have hB : ∀ X, Below w.heap.size w X → Sl X (.slice vb lb.length cb) lb ∧ ∀ x o n cap, (Value.slice vb lb.length cb) = .slice (some ⟨x, o, none⟩) n cap → x < X.heap.size := fun X hX => ⟨hs1.below hX, fun x o n cap e => Nat.lt_of_lt_of_le (hb1 x o n cap e) hX.size⟩
  have HPBu : Hid (∀ X, Below w.heap.size w X → Calls Tryz.prog 5 #[.slice vb lb.length cb, .bool true] X fun x w' => ∃ u1 u2, x = .returned (.tuple #[u1, u2]) ∧ Below X.heap.size X w') := Lib.hid fun X hX => pa_any h hX (hB X hX).1 (hB X hX).2
  have HPLu : Hid (∀ X v, Below w.heap.size w X → Sl X v (barL la lb) → (∀ x o n cap, v = .slice (some ⟨x, o, none⟩) n cap → x < X.heap.size) → Calls Tryz.prog 5 #[v, .bool true] X fun x w' => ∃ u1 u2, x = .returned (.tuple #[u1, u2]) ∧ Below X.heap.size X w') := Lib.hid fun X v hX hs hn => pa_any h hX hs hn
  obtain ⟨r, hr⟩ := parseN_some cf la true
  rcases Nat.eq_zero_or_pos la.length with h0 | hpos
  · have e0 : la = [] := List.length_eq_zero_iff.1 h0
    subst e0
    have hne : NoEsc [] := fun k hk => by simp at hk
    cases r with
    | ok t k g => exact absurd hr (parseN_nil cf true _ t k g)
    | bad c p =>
      obtain ⟨_, _, hp3, _⟩ := parse_codes hr
      have hp0 : p = 0 := by simpa using hp3
      subst hp0
      rcases either_bad hnob hs0.1 hs1.1 hne (by simp) (by omega) hr with ⟨_, hh⟩ | hh
      · simp at hh
      · exact ei_a0 w va vb lb.length ca cb (by omega) c [] lb hs0 hs1 hn0 hn1 (Lib.hid fun X hX => by subst hX; exact pa_bad h (Below.refl _ _) hs0 hb0 hr) HPBu (Lib.hid fun X v hX hs hn => pa_bad h hX hs hn hh) HA
  obtain ⟨n, hn⟩ : ∃ n, la.length = n + 1 := ⟨la.length - 1, by omega⟩
  obtain ⟨b, o, rfl, hc⟩ : ∃ b o, va = some ⟨b, o, none⟩ ∧ w.cell? ⟨b, o + n, none⟩ = some (.int .u8 (la.getD n 0)) := by
    rcases hs0.2.2 with ⟨rfl, _⟩ | ⟨b, o, cap, he, _, _, hrow⟩
    · simp at hn
    · simp only [Value.slice.injEq] at he
      exact ⟨b, o, he.1, hrow n (by omega)⟩
  rw [hn] at hs0 hb0 hn0 ⊢
  by_cases h92 : la.getD n 0 = 92
  · rw [h92] at hc
    exact ei_3 w b o vb n lb.length ca cb (by omega) (by omega) hc HA
  have hc9 : (la.getD n 0 == 92) = false := by simpa using h92
  have hne : NoEsc la := fun k hk => by
    have : k = n := by omega
    subst this
    exact h92
  cases r with
  | bad c p =>
    have HPA : Hid (∀ X, X = w → Calls Tryz.prog 5 #[.slice (some ⟨b, o, none⟩) (n + 1) ca, .bool true] X fun x w' => ∃ k, x = .returned (.tuple #[.pointer none, .iface 64 (.pointer (some ⟨k, 0, none⟩))]) ∧ ParNo c p k w' ∧ Below X.heap.size X w') := Lib.hid fun X hX => by subst hX; exact pa_bad h (Below.refl _ _) hs0 hb0 hr
    by_cases hpn : p = n + 1
    · subst hpn
      exact ei_a1 w b o vb n lb.length ca cb (by omega) (by omega) _ hc hc9 c la lb hs0 hs1 hn0 hn1 HPA HPBu HPLu HA
    · rcases either_bad hnob hs0.1 hs1.1 hne (by omega) (by omega) hr with ⟨hh, _⟩ | hh
      · omega
      · exact ei_a2 w b o vb n lb.length ca cb (by omega) (by omega) _ hc hc9 c p hpn la lb hs0 hs1 hn0 hn1 HPA HPBu (Lib.hid fun X v hX hs hn => pa_bad h hX hs hn hh) HA
  | ok t k g =>
    have HPA : Hid (∀ X, X = w → Calls Tryz.prog 5 #[.slice (some ⟨b, o, none⟩) (n + 1) ca, .bool true] X fun x w' => ∃ p, x = .returned (.tuple #[.pointer (some ⟨p, 0, none⟩), .nilIface]) ∧ ParOk t g p w' ∧ Below X.heap.size X w') := Lib.hid fun X hX => by subst hX; exact pa_good h (Below.refl _ _) hs0 hb0 hr
    obtain ⟨_, _, _, _, hg9⟩ := parseN_ok hr
    have hcl := cnt_le lb
    by_cases hgm : 9 < g + cnt lb
    · exact ei_m w b o vb n lb.length ca cb (by omega) (by omega) _ hc hc9 t g hg9 la lb hs0 hs1 hn0 hn1 HPA HPBu HPLu hgm (by omega) HA
    obtain ⟨r2, hr2⟩ := parseN_some cf lb true
    have hgo := either_go hnob hs0.1 hs1.1 hne (by omega) (by omega) hr hr2 (by omega)
    cases r2 with
    | bad c p =>
      dsimp only at hgo
      rw [hn] at hgo
      obtain ⟨_, _, hp3, _⟩ := parse_codes hr2
      exact ei_b w b o vb n lb.length ca cb (by omega) (by omega) _ hc hc9 t g c p (by omega) la lb hs0 hs1 hn0 hn1 HPA (Lib.hid fun X hX => pa_bad h hX (hB X hX).1 (hB X hX).2 hr2) (Lib.hid fun X v hX hs hn => pa_bad h hX hs hn hgo) (by omega) HA
    | ok t2 k2 g2 =>
      dsimp only at hgo
      obtain ⟨t3, k3, hgo, h5, hk3⟩ := hgo
      obtain ⟨_, _, _, _, hg29⟩ := parseN_ok hr2
      exact ei_ok w b o vb n lb.length ca cb (by omega) (by omega) _ hc hc9 t t2 t3 g g2 hg29 h5 hk3 (brN_le (parseN_fit hs0.1 hr).2) (brN_le (parseN_fit hs1.1 hr2).2) la lb hs0 hs1 hn0 hn1 HPA (Lib.hid fun X hX => pa_good h hX (hB X hX).1 (hB X hX).2 hr2) (Lib.hid fun X v hX hs hn => pa_good h hX hs hn hgo) (by omega) HA
set_option maxRecDepth 100000 in
theorem retextEither_open {H : Type} {enc : TypeId × Value → H} {d0 d1 : DataW H} {p0 p1 : List MemPlace} {q : Prop} (W : World) (base : Nat) (v0 v1 : Value)
    (h0 : DataW.Trod enc Tryz.prog W 0 (fun _ => true) true 22 v0 d0 p0) (h1 : DataW.Trod enc Tryz.prog W 0 (fun _ => true) true 22 v1 d1 p1)
    (k0 : Value.okWide Tryz.prog W .any base 22 v0) (k1 : Value.okWide Tryz.prog W .any base 22 v1) (_ : q)
    (hL : laidMetH Tryz.prog Rows.retextEitherRow.laid W) :
    Calls Tryz.prog 3 #[v0, v1] W fun e W' => e = .returned (.bool true) ∧ Below W.heap.size W W' := by
  obtain ⟨l0, hs0, _⟩ := sl_of_w k0 h0
  obtain ⟨l1, hs1, _⟩ := sl_of_w k1 h1
  obtain ⟨_, _, ⟨e, hsn⟩, ht, hT, hD, hP⟩ := re_of_laid (by kernel_rfl) (by kernel_rfl) (by kernel_rfl) (by kernel_rfl) hL
  obtain ⟨cf, hcf⟩ := classes_ok
  obtain ⟨hcf', hnob⟩ := cutBar_ok hcf
  exact reither_any hnob ⟨hcf', hsn, ht⟩ v0 v1 l0 l1 hs0 hs1 (okw_block k0) (okw_block k1) (sl_nil2 k0 h0) (sl_nil2 k1 h1) hT hD hP
end Go.Proofs.YthmgcebonplcgaaGreatDoor
