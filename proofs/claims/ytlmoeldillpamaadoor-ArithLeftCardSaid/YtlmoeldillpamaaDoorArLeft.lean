/- The walk of the statement on operators of one strength. -/
import Derived.Test.YtlmoeldillpamaaDoorArAwake
import Derived.Test.YtlmoeldillpamaaDoorArSizeT
import Derived.Deep.RegionHeld3
import Derived.Test.YtlmoeldillpamaaDoorArLeftM
import Derived.Test.YtlmoeldillpamaaDoorScOpen
import Derived.Test.YtlmoeldillpamaaDoorArLaid
import Derived.Test.YtlmoeldillpamaaDoorRows
import Derived.StillTailTactics
import Derived.Great.BuildSlice
import Derived.Laws.Rows
import Derived.Deep.WholeRow
namespace Go.Proofs.YtlmoeldillpamaaDoor
open Go.RowKit Go.Extern.Stop Go.Stop Go.Extern

/-- The operators between operands, and how strongly they bind, as the arrays hold them. -/
def binVals : Array Value := ((List.range 18).map fun i => Value.string (binOp i)).toArray
theorem binVals_one : binVals.all (·.oneCell') = true := by kernel_rfl
def strVals : Array Value := ((List.range 18).map fun i => Value.int .i64 (strN (binOp i) : Nat)).toArray
theorem strVals_one : strVals.all (·.oneCell') = true := by kernel_rfl
theorem binVals_at {w : World} {b : Nat} {t : TypeId} (h : w.heap[b]? = some (.cells binVals t (0, 0))) (k : Nat) (hk : k < 18) : w.cell? ⟨b, k, none⟩ = some (.string (binOp k)) := by
  simp [World.cell?, h, binVals, List.getElem?_range hk]
theorem strVals_at {w : World} {b : Nat} {t : TypeId} (h : w.heap[b]? = some (.cells strVals t (0, 0))) (k : Nat) (hk : k < 18) : w.cell? ⟨b, k, none⟩ = some (.int .i64 (strN (binOp k) : Nat)) := by
  simp [World.cell?, h, strVals, List.getElem?_range hk]
theorem alloc2_at (w : World) (o o' : Obj) : ((w.alloc o).alloc o').heap[w.heap.size + 1]? = some o' := by
  have := heap_alloc_last (w.alloc o) o'
  simpa using this
theorem setRow2 (w : World) (o : Obj) (old c : Array Value) (t : TypeId) : ((w.alloc o).alloc (.cells old t)).setRow (w.heap.size + 1) c = (w.alloc o).alloc (.cells c t) := by
  have := World.setRow_alloc_new (w.alloc o) old c t
  simpa using this
theorem mod18 (i : Int) : -17 ≤ i.tmod 18 ∧ i.tmod 18 ≤ 17 := by
  have h1 := Int.tmod_lt_of_pos (-i) (show (0 : Int) < 18 by omega)
  have h2 := Int.tmod_lt_of_pos i (show (0 : Int) < 18 by omega)
  rw [Int.neg_tmod] at h1
  omega

theorem conv_fun (s : ByteArray) (hs : s.size ≤ 9223372036854775807) : ∃ (cf : World → Nat) (wf : World → World), (∀ W, (convert 9 22 (.string s)).run Tryd.prog W = .ok (.slice (some ⟨W.heap.size, 0, none⟩) s.size (cf W)) (wf W)) ∧
    ∀ W, Sl (wf W) (.slice (some ⟨W.heap.size, 0, none⟩) s.size (cf W)) (bys s) ∧ Below W.heap.size W (wf W) :=
  ⟨fun W => Classical.choose (conv_sl W s hs), fun W => Classical.choose (Classical.choose_spec (conv_sl W s hs)), fun W => (Classical.choose_spec (Classical.choose_spec (conv_sl W s hs))).1, fun W => (Classical.choose_spec (Classical.choose_spec (conv_sl W s hs))).2⟩
theorem bys_appL (s t : ByteArray) : bys (s ++ t) = bys s ++ bys t := by unfold bys; rw [ByteArray.data_append, Array.toList_append, List.map_append]
theorem bytA {a b : List Int} (ha : Byt a) (hb : Byt b) : Byt (a ++ b) := fun i => by
  by_cases h : i < a.length
  · rw [getD_app_lt _ _ _ h]; exact ha i
  · have : (a ++ b).getD i 0 = b.getD (i - a.length) 0 := by
      simp only [List.getD]
      rw [List.getElem?_append_right (by omega)]
    rw [this]
    exact hb _
theorem dL_byt (n : Nat) : Byt (dL n) := fun i => by
  by_cases h : i < (dL n).length
  · rw [List.getD, List.getElem?_eq_getElem h]
    have := dL_dig n _ (List.getElem_mem h)
    simp only [Option.getD_some]
    omega
  · rw [List.getD, List.getElem?_eq_none (by omega)]
    decide
theorem leftL_byt (i j x y z : Nat) : Byt (leftL i j x y z) := by
  unfold leftL
  exact bytA (dL_byt x) (bytA (bys_byt _) (bytA (dL_byt y) (bytA (a := [32]) (fun i => by cases i with | zero => decide | succ i => simp) (bytA (bys_byt _) (dL_byt z)))))
def leftT (si sj : Nat) (oi oj : ByteArray) (x y z p q r u v : Nat) : Tr := if si < sj then .bin oi p (.num x r) (.bin oj q (.num y u) (.num z v)) else .bin oj q (.bin oi p (.num x r) (.num y u)) (.num z v)
theorem want_lt (oi oj : ByteArray) (x y z : List UInt8) : (⟨#[40]⟩ ++ oi ++ ⟨#[32]⟩ ++ ⟨x.toArray⟩ ++ ⟨#[32, 40]⟩ ++ oj ++ ⟨#[32]⟩ ++ ⟨y.toArray⟩ ++ ⟨#[32]⟩ ++ ⟨z.toArray⟩ ++ ⟨#[41, 41]⟩ : ByteArray) = ⟨(opTxt oi sEmpty [x, opTxt oj sEmpty [y, z]]).toArray⟩ := by
  apply ByteArray.ext
  apply Array.toList_inj.1
  simp [opTxt, ByteArray.data_append]
theorem want_ge (oi oj : ByteArray) (x y z : List UInt8) : (⟨#[40]⟩ ++ oj ++ ⟨#[32, 40]⟩ ++ oi ++ ⟨#[32]⟩ ++ ⟨x.toArray⟩ ++ ⟨#[32]⟩ ++ ⟨y.toArray⟩ ++ ⟨#[41, 32]⟩ ++ ⟨z.toArray⟩ ++ ⟨#[41]⟩ : ByteArray) = ⟨(opTxt oj sEmpty [opTxt oi sEmpty [x, y], z]).toArray⟩ := by
  apply ByteArray.ext
  apply Array.toList_inj.1
  simp [opTxt, ByteArray.data_append]
theorem bin_one (i : Nat) (hi : i < 18) : oneN (binOp i) = 1 := by
  have h : ∀ i : Fin 18, oneN (binOp i.val) = 1 := by decide
  exact h ⟨i, hi⟩
theorem leftT_size (i j : Nat) (hi : i < 18) (hj : j < 18) (x y z p q r u v : Nat) : sizeT (leftT (strN (binOp i)) (strN (binOp j)) (binOp i) (binOp j) x y z p q r u v) = 5 := by
  have e : oneN sNum = 1 := by decide
  unfold leftT
  split <;> simp [sizeT, bin_one i hi, bin_one j hj, e]
/-- What a region keeps: the old memory and two cells. -/
def Kq (w : World) (A a b : Nat) (u v : Value) (w' : World) : Prop := Below w.heap.size w w' ∧ w'.cell? ⟨A, a, none⟩ = some u ∧ w'.cell? ⟨A, b, none⟩ = some v ∧ A < w'.heap.size
theorem Kq.next {w : World} {A a b : Nat} {u v : Value} {w1 w2 : World} (h : Kq w A a b u v w1) (hb : Below w1.heap.size w1 w2) : Kq w A a b u v w2 := by
  obtain ⟨h0, h1, h2, h3⟩ := h
  exact ⟨h0.trans (hb.mono h0.size), by rw [hb.cell h3]; exact h1, by rw [hb.cell h3]; exact h2, Nat.lt_of_lt_of_le h3 hb.size⟩
theorem Kq.drew {w : World} {A a b : Nat} {u v : Value} {w1 : World} (h : Kq w A a b u v w1) : Kq w A a b u v w1.drew := h.next (Below.refl _ _).drew

set_option maxRecDepth 100000 in
set_option maxHeartbeats 8000000 in
theorem left_any (i j : Int) (x y z : Nat) (s : Nat → Addr) (w : World) (hx : x ≤ 65535) (hy : y ≤ 65535) (hz : z ≤ 65535) (he : Er w s) (hT : TP w) :
    Calls Tryd.prog 5 #[.int .i64 i, .int .i64 j, .int .u16 x, .int .u16 y, .int .u16 z] w fun e w' => e = .returned (.bool true) ∧ Below w.heap.size w w' := by
  obtain ⟨i1, i2⟩ := mod18 i
  obtain ⟨j1, j2⟩ := mod18 j
  have HE := Lib.hid he
  have HT := Lib.hid hT
  clear he hT
  go_enter Tryd.func5, Tryd.ntmps5
  go_upto_region 3 with (first | (refine wpList_buildTo rfl 43 _ rfl (some 19) rfl binVals (by kernel_rfl) ?_) | (refine wpList_buildTo rfl 44 _ rfl (some 20) rfl strVals (by kernel_rfl) ?_) | (refine wpList_store_rowTo rfl 43 _ _ rfl rfl w.heap.size binVals rfl rfl 43 _ (heap_alloc_last w _) (by kernel_rfl) (by simp; rfl) binVals_one ?_; rw [World.setRow_alloc_new]) | (refine wpList_store_rowTo rfl 44 _ _ rfl rfl (w.heap.size + 1) strVals rfl rfl 44 _ (alloc2_at w _ _) (by kernel_rfl) (by simp; rfl) strVals_one ?_; rw [setRow2]))
  obtain ⟨wo, hwo⟩ : ∃ wo : World, wo = (w.alloc (.cells binVals 43)).alloc (.cells strVals 44) := ⟨_, rfl⟩
  rw [← hwo]
  have HBo : Hid (Below w.heap.size w wo) := Lib.hid (by rw [hwo]; exact ((Below.refl _ _).alloc (Nat.le_refl _) _).alloc (by simp) _)
  have HA1 : Hid (wo.heap[w.heap.size]? = some (.cells binVals 43 (0, 0))) := Lib.hid (by rw [hwo]; exact alloc_keeps (heap_alloc_last w _) _)
  have HA2 : Hid (wo.heap[w.heap.size + 1]? = some (.cells strVals 44 (0, 0))) := Lib.hid (by rw [hwo]; exact alloc2_at w _ _)
  clear hwo
  have hx0 : (0 : Int) ≤ x := by omega
  have hy0 : (0 : Int) ≤ y := by omega
  have hz0 : (0 : Int) ≤ z := by omega
  have hx1 : (x : Int) ≤ 65535 := by omega
  have hy1 : (y : Int) ≤ 65535 := by omega
  have hz1 : (z : Int) ≤ 65535 := by omega
  go_wp2_with fail
  obtain ⟨a, ha⟩ : ∃ a : Nat, (i.tmod 18 + 18) % 18 = a := ⟨((i.tmod 18 + 18) % 18).toNat, by omega⟩
  obtain ⟨b, hb⟩ : ∃ b : Nat, (j.tmod 18 + 18) % 18 = b := ⟨((j.tmod 18 + 18) % 18).toNat, by omega⟩
  have ha1 : a < 18 := by omega
  have hb1 : b < 18 := by omega
  rw [ha, hb]
  clear ha hb i1 i2 j1 j2
  have HTx : Hid (∀ (n : Nat) W, n ≤ 65535 → Below w.heap.size w W → Calls Tryd.prog 14 #[.int .i64 n] W fun e w' => e = .returned (.string ⟨(Lib.itoa n).toArray⟩) ∧ Below W.heap.size W w') := Lib.hid (fun n W hn hW => scText_any n W (by omega) (by omega) (HT.out.below hW))
  refine (HTx.out x wo hx HBo.out).mono ?_
  rintro e w1 ⟨rfl, hb1'⟩
  have HB1 : Hid (Below w.heap.size w w1) := Lib.hid (HBo.out.trans (hb1'.mono HBo.out.size))
  have HC1 : Hid (Below wo.heap.size wo w1) := Lib.hid hb1'
  clear hb1'
  go_wp2_with fail
  refine (HTx.out y w1 hy HB1.out).mono ?_
  rintro e w2 ⟨rfl, hb2'⟩
  have HB2 : Hid (Below w.heap.size w w2) := Lib.hid (HB1.out.trans (hb2'.mono HB1.out.size))
  have HC2 : Hid (Below wo.heap.size wo w2) := Lib.hid (HC1.out.trans (hb2'.mono HC1.out.size))
  clear hb2'
  go_wp2_with fail
  refine (HTx.out z w2 hz HB2.out).mono ?_
  rintro e w3 ⟨rfl, hb3'⟩
  have HB3 : Hid (Below w.heap.size w w3) := Lib.hid (HB2.out.trans (hb3'.mono HB2.out.size))
  have HC3 : Hid (Below wo.heap.size wo w3) := Lib.hid (HC2.out.trans (hb3'.mono HC2.out.size))
  clear hb3'
  have c1 := binVals_at ((HC3.out.block _ (lt_of_heap HA1.out)).trans HA1.out) a ha1
  have c2 := binVals_at ((HC3.out.block _ (lt_of_heap HA1.out)).trans HA1.out) b hb1
  have a0 : (0 : Int) ≤ a := by omega
  have b0 : (0 : Int) ≤ b := by omega
  have a1 : (a : Int) < 18 := by omega
  have b1 : (b : Int) < 18 := by omega
  have lx : (Lib.itoa x).length ≤ 21 := Lib.itoa_length_le x (by omega) (by omega)
  have ly : (Lib.itoa y).length ≤ 21 := Lib.itoa_length_le y (by omega) (by omega)
  have lz : (Lib.itoa z).length ≤ 21 := Lib.itoa_length_le z (by omega) (by omega)
  have HX : Hid (bys ⟨(Lib.itoa x).toArray⟩ = dL x) := Lib.hid (by rw [Lib.itoa_nonneg]; rfl)
  have HY : Hid (bys ⟨(Lib.itoa y).toArray⟩ = dL y) := Lib.hid (by rw [Lib.itoa_nonneg]; rfl)
  have HZ : Hid (bys ⟨(Lib.itoa z).toArray⟩ = dL z) := Lib.hid (by rw [Lib.itoa_nonneg]; rfl)
  have sx : (⟨(Lib.itoa x).toArray⟩ : ByteArray).size ≤ 21 := by simpa [ByteArray.size] using lx
  have sy : (⟨(Lib.itoa y).toArray⟩ : ByteArray).size ≤ 21 := by simpa [ByteArray.size] using ly
  have sz : (⟨(Lib.itoa z).toArray⟩ : ByteArray).size ≤ 21 := by simpa [ByteArray.size] using lz
  have si : (binOp a).size ≤ 3 := opList_sz _
  have sj : (binOp b).size ≤ 3 := opList_sz _
  clear lx ly lz
  generalize hX : (⟨(Lib.itoa x).toArray⟩ : ByteArray) = X at *
  generalize hY : (⟨(Lib.itoa y).toArray⟩ : ByteArray) = Y at *
  generalize hZ : (⟨(Lib.itoa z).toArray⟩ : ByteArray) = Z at *
  generalize hoi : binOp a = oi at *
  generalize hoj : binOp b = oj at *
  go_upto_region 5 with (fail)
  have hT : X ++ oi ++ Y ++ ⟨#[32]⟩ ++ oj ++ Z = ofBys (leftL a b x y z) := by
    apply bys_inj
    rw [bys_ofBys (leftL_byt a b x y z), ← hoi, ← hoj] at *
    simp only [bys_appL]
    rw [HX.out, HY.out, HZ.out]
    unfold leftL
    simp only [List.append_assoc]
    rfl
  obtain ⟨n, hn⟩ : ∃ n, n = (X ++ oi ++ Y ++ ⟨#[32]⟩ ++ oj ++ Z).size := ⟨_, rfl⟩
  have hn2 : n ≤ 200 := by rw [hn]; simp only [ByteArray.size_append]; show _ + (ByteArray.mk #[32]).size + _ + _ ≤ _; have : (ByteArray.mk #[32]).size = 1 := rfl; omega
  obtain ⟨cf, wf, hconv, hwf⟩ := conv_fun (X ++ oi ++ Y ++ ⟨#[32]⟩ ++ oj ++ Z) (by rw [← hn]; omega)
  rw [← hn] at hconv hwf
  have hwf2 := fun W => (hwf W).2
  obtain ⟨t, p, q, r, u, v, ht, hread⟩ := read_left a b x y z ha1 hb1 hx hy hz
  have hpp : parseP (leftL a b x y z) 12 = some (.ok (leftT (strN oi) (strN oj) oi oj x y z p q r u v) t) := by
    unfold parseP
    have hl : (leftL a b x y z).length = n := by rw [hn, hT, ofBys_size]
    rw [if_neg (by omega), hread, hoi, hoj]
    rfl
  have HPT : Hid (∀ W, Below w3.heap.size w3 W → Calls Tryd.prog 6 #[.slice (some ⟨W.heap.size, 0, none⟩) n (cf W)] (wf W) fun e w' => (∃ E, e = .returned (.tuple #[.pointer (some ⟨E, 0, none⟩), .nilIface]) ∧ ExAt w' E (leftT (strN oi) (strN oj) oi oj x y z p q r u v)) ∧ Below (wf W).heap.size (wf W) w') := Lib.hid (fun W hW => by
    have h1 := (hwf W).1
    rw [hT, bys_ofBys (leftL_byt a b x y z)] at h1
    refine (parse_any _ _ 12 _ s (wf W) hpp h1 (((HE.out.below HB3.out).below hW).below (hwf W).2)).mono ?_
    rintro e w' ⟨⟨E, o, m, rfl, _, hE, hI⟩, hb⟩
    exact ⟨⟨E, rfl, o, m, hE, hI.mono (Nat.zero_le _) _ _⟩, hb⟩)
  have HWB := Lib.hid hwf2
  have HPP := Lib.hid hpp
  have HTT := Lib.hid hT
  have HHN := Lib.hid hn
  have HK : Hid (Kq w3 w.heap.size a b (.string oi) (.string oj) w3) := Lib.hid ⟨Below.refl _ _, c1, c2, lt_of_heap ((HC3.out.block _ (lt_of_heap HA1.out)).trans HA1.out)⟩
  clear hwf hwf2 hread hpp hT hn c1 c2
  have g1 : X.size + oi.size ≤ 9223372036854775807 := by omega
  have g2 : X.size + oi.size + Y.size ≤ 9223372036854775807 := by omega
  have g3 : X.size + oi.size + Y.size + 1 ≤ 9223372036854775807 := by omega
  have g4 : X.size + oi.size + Y.size + 1 + oj.size ≤ 9223372036854775807 := by omega
  have g5 : X.size + oi.size + Y.size + 1 + oj.size + Z.size ≤ 9223372036854775807 := by omega
  have HKd : Hid (Kq w3 w.heap.size a b (.string oi) (.string oj) w3.drew) := Lib.hid HK.out.drew
  refine wp_region_held (S := (fun w' => Below w3.heap.size w3 w' ∧ w'.cell? ⟨w.heap.size, a, none⟩ = some (.string oi) ∧ w'.cell? ⟨w.heap.size, b, none⟩ = some (.string oj) ∧ w.heap.size < w'.heap.size)) (by kernel_rfl) ?_
  try (change wpAnyH _ _ _ _ _ _ _ _ (World.drew _))
  refine wpAnyH_take (i := 0) (v := .string X) rfl (by kernel_rfl) (by kernel_rfl) (by kernel_rfl) (fun _ _ _ h => h) (Or.inl ⟨by kernel_rfl, ?hy0⟩) HKd.out ?_
  case hy0 => intro W hS; obtain ⟨x0, x1, x2, x3⟩ := hS; go_simp; try (first | done | with_reducible rfl)
  try simp only [Act.put, List.setIfInBounds_toArray]
  refine wpAnyH_take (i := 1) (v := .int .i64 (a : Int)) rfl (by kernel_rfl) (by kernel_rfl) (by kernel_rfl) (fun _ _ _ h => h) (Or.inl ⟨by kernel_rfl, ?hy1⟩) HKd.out ?_
  case hy1 => intro W hS; obtain ⟨x0, x1, x2, x3⟩ := hS; go_simp; try (first | done | with_reducible rfl)
  try simp only [Act.put]
  refine wpAnyH_take (i := 2) (v := .pointer (some ⟨w.heap.size, a, none⟩)) rfl (by kernel_rfl) (by kernel_rfl) (by kernel_rfl) (fun _ _ _ h => h) (Or.inl ⟨by kernel_rfl, ?hy2⟩) HKd.out ?_
  case hy2 => intro W hS; obtain ⟨x0, x1, x2, x3⟩ := hS; go_simp; try (first | done | with_reducible rfl)
  try simp only [Act.put]
  refine wpAnyH_take (i := 3) (v := .string oi) rfl (by kernel_rfl) (by kernel_rfl) (by kernel_rfl) (fun _ _ _ h => h) (Or.inl ⟨by kernel_rfl, ?hy3⟩) HKd.out ?_
  case hy3 => intro W hS; obtain ⟨x0, x1, x2, x3⟩ := hS; go_simp; try (first | done | with_reducible rfl)
  try simp only [Act.put]
  refine wpAnyH_take (i := 4) (v := .string (X ++ oi)) rfl (by kernel_rfl) (by kernel_rfl) (by kernel_rfl) (fun _ _ _ h => h) (Or.inl ⟨by kernel_rfl, ?hy4⟩) HKd.out ?_
  case hy4 => intro W hS; obtain ⟨x0, x1, x2, x3⟩ := hS; go_simp; try (first | done | with_reducible rfl)
  try simp only [Act.put]
  refine wpAnyH_take (i := 5) (v := .string Y) rfl (by kernel_rfl) (by kernel_rfl) (by kernel_rfl) (fun _ _ _ h => h) (Or.inl ⟨by kernel_rfl, ?hy5⟩) HKd.out ?_
  case hy5 => intro W hS; obtain ⟨x0, x1, x2, x3⟩ := hS; go_simp; try (first | done | with_reducible rfl)
  try simp only [Act.put]
  refine wpAnyH_take (i := 6) (v := .string (X ++ oi ++ Y)) rfl (by kernel_rfl) (by kernel_rfl) (by kernel_rfl) (fun _ _ _ h => h) (Or.inl ⟨by kernel_rfl, ?hy6⟩) HKd.out ?_
  case hy6 => intro W hS; obtain ⟨x0, x1, x2, x3⟩ := hS; go_simp; try (first | done | with_reducible rfl)
  try simp only [Act.put]
  refine wpAnyH_take (i := 7) (v := .string (X ++ oi ++ Y ++ ⟨#[32]⟩)) rfl (by kernel_rfl) (by kernel_rfl) (by kernel_rfl) (fun _ _ _ h => h) (Or.inl ⟨by kernel_rfl, ?hy7⟩) HKd.out ?_
  case hy7 => intro W hS; obtain ⟨x0, x1, x2, x3⟩ := hS; go_simp; try (first | done | with_reducible rfl)
  try simp only [Act.put]
  refine wpAnyH_take (i := 8) (v := .int .i64 (b : Int)) rfl (by kernel_rfl) (by kernel_rfl) (by kernel_rfl) (fun _ _ _ h => h) (Or.inl ⟨by kernel_rfl, ?hy8⟩) HKd.out ?_
  case hy8 => intro W hS; obtain ⟨x0, x1, x2, x3⟩ := hS; go_simp; try (first | done | with_reducible rfl)
  try simp only [Act.put]
  refine wpAnyH_take (i := 9) (v := .pointer (some ⟨w.heap.size, b, none⟩)) rfl (by kernel_rfl) (by kernel_rfl) (by kernel_rfl) (fun _ _ _ h => h) (Or.inl ⟨by kernel_rfl, ?hy9⟩) HKd.out ?_
  case hy9 => intro W hS; obtain ⟨x0, x1, x2, x3⟩ := hS; go_simp; try (first | done | with_reducible rfl)
  try simp only [Act.put]
  refine wpAnyH_take (i := 10) (v := .string oj) rfl (by kernel_rfl) (by kernel_rfl) (by kernel_rfl) (fun _ _ _ h => h) (Or.inl ⟨by kernel_rfl, ?hy10⟩) HKd.out ?_
  case hy10 => intro W hS; obtain ⟨x0, x1, x2, x3⟩ := hS; go_simp; try (first | done | with_reducible rfl)
  try simp only [Act.put]
  refine wpAnyH_take (i := 11) (v := .string (X ++ oi ++ Y ++ ⟨#[32]⟩ ++ oj)) rfl (by kernel_rfl) (by kernel_rfl) (by kernel_rfl) (fun _ _ _ h => h) (Or.inl ⟨by kernel_rfl, ?hy11⟩) HKd.out ?_
  case hy11 => intro W hS; obtain ⟨x0, x1, x2, x3⟩ := hS; go_simp; try (first | done | with_reducible rfl)
  try simp only [Act.put]
  refine wpAnyH_take (i := 12) (v := .string Z) rfl (by kernel_rfl) (by kernel_rfl) (by kernel_rfl) (fun _ _ _ h => h) (Or.inl ⟨by kernel_rfl, ?hy12⟩) HKd.out ?_
  case hy12 => intro W hS; obtain ⟨x0, x1, x2, x3⟩ := hS; go_simp; try (first | done | with_reducible rfl)
  try simp only [Act.put]
  refine wpAnyH_take (i := 13) (v := .string (X ++ oi ++ Y ++ ⟨#[32]⟩ ++ oj ++ Z)) rfl (by kernel_rfl) (by kernel_rfl) (by kernel_rfl) (fun _ _ _ h => h) (Or.inl ⟨by kernel_rfl, ?hy13⟩) HKd.out ?_
  case hy13 => intro W hS; obtain ⟨x0, x1, x2, x3⟩ := hS; go_simp; try (first | done | with_reducible rfl)
  try simp only [Act.put]
  refine wpAnyH_all (rs := [14]) (by kernel_rfl) (by simp) ?_
  intro ii hii
  rw [List.mem_singleton] at hii
  subst hii
  refine wpOp_step (by rfl) ?_
  have hcv := hconv w3.drew
  intro K' hK'
  go_simp
  refine hK' _ _ ⟨HKd.out.next (HWB.out _), ?_⟩
  clear hK' hcv hconv
  refine wpAnyH_all (rs := [15]) (by kernel_rfl) (by simp) ?_
  intro ii hii
  rw [List.mem_singleton] at hii
  subst hii
  refine wpOp_step (by rfl) ?_
  intro K' hK'
  go_simp
  go_at_call 6
  refine (HPT.out w3.drew HKd.out.1).mono ?_
  rintro e w4 ⟨⟨E, rfl, hex⟩, hb4⟩
  have HEX := Lib.hid hex
  have HK4 : Hid (Kq w3 w.heap.size a b (.string oi) (.string oj) w4) := Lib.hid ((HKd.out.next (HWB.out _)).next hb4)
  clear hex hb4
  refine hK' _ _ ⟨HK4.out, ?_⟩
  clear hK'
  refine wpAnyH_take (i := 16) (oi := ⟨some 38, .move (.tmp 54), 26, "more.go:80", _, none⟩) (v := .tuple #[.pointer (some ⟨E, 0, none⟩), .nilIface]) rfl (by kernel_rfl) (by kernel_rfl) (by kernel_rfl) (fun _ _ _ h => h) (Or.inl ⟨by kernel_rfl, ?hy16⟩) HK4.out ?_
  case hy16 => intro W hS; obtain ⟨x0, x1, x2, x3⟩ := hS; go_simp; try (first | done | with_reducible rfl)
  try simp only [Act.put, List.setIfInBounds_toArray, List.set_cons_zero, List.set_cons_succ]
  refine wpAnyH_take (i := 17) (oi := ⟨some 55, .extract (.tmp 38) 0, 23, "more.go:80", _, none⟩) (v := .pointer (some ⟨E, 0, none⟩)) rfl (by kernel_rfl) (by kernel_rfl) (by kernel_rfl) (fun _ _ _ h => h) (Or.inl ⟨by kernel_rfl, ?hy17⟩) HK4.out ?_
  case hy17 => intro W hS; obtain ⟨x0, x1, x2, x3⟩ := hS; go_simp; try (first | done | with_reducible rfl)
  try simp only [Act.put, List.setIfInBounds_toArray, List.set_cons_zero, List.set_cons_succ]
  refine wpAnyH_take (i := 18) (oi := ⟨some 56, .extract (.tmp 38) 1, 25, "more.go:80", _, none⟩) (v := .nilIface) rfl (by kernel_rfl) (by kernel_rfl) (by kernel_rfl) (fun _ _ _ h => h) (Or.inl ⟨by kernel_rfl, ?hy18⟩) HK4.out ?_
  case hy18 => intro W hS; obtain ⟨x0, x1, x2, x3⟩ := hS; go_simp; try (first | done | with_reducible rfl)
  try simp only [Act.put, List.setIfInBounds_toArray, List.set_cons_zero, List.set_cons_succ]
  refine wpAnyH_take (i := 19) (oi := ⟨some 16, .assign (.tmp 55), 23, "more.go:80", _, none⟩) (v := .pointer (some ⟨E, 0, none⟩)) rfl (by kernel_rfl) (by kernel_rfl) (by kernel_rfl) (fun _ _ _ h => h) (Or.inl ⟨by kernel_rfl, ?hy19⟩) HK4.out ?_
  case hy19 => intro W hS; obtain ⟨x0, x1, x2, x3⟩ := hS; go_simp; try (first | done | with_reducible rfl)
  try simp only [Act.put, List.setIfInBounds_toArray, List.set_cons_zero, List.set_cons_succ]
  refine wpAnyH_take (i := 20) (oi := ⟨some 17, .assign (.tmp 56), 25, "more.go:80", _, none⟩) (v := .nilIface) rfl (by kernel_rfl) (by kernel_rfl) (by kernel_rfl) (fun _ _ _ h => h) (Or.inl ⟨by kernel_rfl, ?hy20⟩) HK4.out ?_
  case hy20 => intro W hS; obtain ⟨x0, x1, x2, x3⟩ := hS; go_simp; try (first | done | with_reducible rfl)
  try simp only [Act.put, List.setIfInBounds_toArray, List.set_cons_zero, List.set_cons_succ]
  refine wpAnyH_done (by kernel_rfl) ?_ _
  clear g1 g2 g3 g4 g5
  have HB4 : Hid (Below wo.heap.size wo w4) := Lib.hid (HC3.out.trans (HK4.out.1.mono HC3.out.size))
  have HBw : Hid (Below w.heap.size w w4) := Lib.hid (HBo.out.trans (HB4.out.mono HBo.out.size))
  have r1 := binVals_at ((HB4.out.block _ (lt_of_heap HA1.out)).trans HA1.out) a ha1
  have r2 := binVals_at ((HB4.out.block _ (lt_of_heap HA1.out)).trans HA1.out) b hb1
  have s1 := strVals_at ((HB4.out.block _ (lt_of_heap HA2.out)).trans HA2.out) a ha1
  have s2 := strVals_at ((HB4.out.block _ (lt_of_heap HA2.out)).trans HA2.out) b hb1
  rw [hoi] at r1 s1
  rw [hoj] at r2 s2
  have HSZ : Hid (sizeT (leftT (strN oi) (strN oj) oi oj x y z p q r u v) = 5) := Lib.hid (by rw [← hoi, ← hoj]; exact leftT_size a b ha1 hb1 _ _ _ _ _ _ _ _)
  have HW1 : Hid (strN oi < strN oj → (⟨#[40]⟩ ++ oi ++ ⟨#[32]⟩ ++ X ++ ⟨#[32, 40]⟩ ++ oj ++ ⟨#[32]⟩ ++ Y ++ ⟨#[32]⟩ ++ Z ++ ⟨#[41, 41]⟩ : ByteArray) = ⟨(txt (leftT (strN oi) (strN oj) oi oj x y z p q r u v)).toArray⟩) := Lib.hid (fun h => by
    unfold leftT
    rw [if_pos h, ← hX, ← hY, ← hZ]
    exact want_lt oi oj _ _ _)
  have HW2 : Hid (¬ strN oi < strN oj → (⟨#[40]⟩ ++ oj ++ ⟨#[32, 40]⟩ ++ oi ++ ⟨#[32]⟩ ++ X ++ ⟨#[32]⟩ ++ Y ++ ⟨#[41, 32]⟩ ++ Z ++ ⟨#[41]⟩ : ByteArray) = ⟨(txt (leftT (strN oi) (strN oj) oi oj x y z p q r u v)).toArray⟩) := Lib.hid (fun h => by
    unfold leftT
    rw [if_neg h, ← hX, ← hY, ← hZ]
    exact want_ge oi oj _ _ _)
  have HTX : Hid (∀ W, Below w4.heap.size w4 W → Calls Tryd.prog 12 #[.pointer (some ⟨E, 0, none⟩)] W fun x' w' => x' = .returned (.string ⟨(txt (leftT (strN oi) (strN oj) oi oj x y z p q r u v)).toArray⟩) ∧ Below W.heap.size W w') := Lib.hid (fun W hW => text_of _ 12 _ t E W HPP.out (HEX.out.below hW) ((HT.out.below HBw.out).below hW))
  have HSX : Hid (∀ W, Below w4.heap.size w4 W → Calls Tryd.prog 13 #[.pointer (some ⟨E, 0, none⟩)] W fun x' w' => x' = .returned (.int .i64 (5 : Nat)) ∧ Below W.heap.size W w') := Lib.hid (fun W hW => by rw [← HSZ.out]; exact size_of _ 12 _ t E W HPP.out (HEX.out.below hW))
  have HAW : Hid (∀ W, Below w.heap.size w W → Calls Tryd.prog 8 #[] W fun e w' => e = .returned (.bool true) ∧ Below W.heap.size W w') := Lib.hid (fun W hW => arAwake_any s W (HE.out.below hW) (HT.out.below hW))
  clear hX hY hZ hoi hoj HSZ HX HY HZ
  generalize leftT (strN oi) (strN oj) oi oj x y z p q r u v = tr at *
  have k0 : 1 + oj.size ≤ 9223372036854775807 := by omega
  have k1 : 1 + oj.size + 2 ≤ 9223372036854775807 := by omega
  have k2 : 1 + oj.size + 2 + oi.size ≤ 9223372036854775807 := by omega
  have k3 : 1 + oj.size + 2 + oi.size + 1 ≤ 9223372036854775807 := by omega
  have k4 : 1 + oj.size + 2 + oi.size + 1 + X.size ≤ 9223372036854775807 := by omega
  have k5 : 1 + oj.size + 2 + oi.size + 1 + X.size + 1 ≤ 9223372036854775807 := by omega
  have k6 : 1 + oj.size + 2 + oi.size + 1 + X.size + 1 + Y.size ≤ 9223372036854775807 := by omega
  have k7 : 1 + oj.size + 2 + oi.size + 1 + X.size + 1 + Y.size + 2 ≤ 9223372036854775807 := by omega
  have k8 : 1 + oj.size + 2 + oi.size + 1 + X.size + 1 + Y.size + 2 + Z.size ≤ 9223372036854775807 := by omega
  have k9 : 1 + oj.size + 2 + oi.size + 1 + X.size + 1 + Y.size + 2 + Z.size + 1 ≤ 9223372036854775807 := by omega
  have m0 : 1 + oi.size ≤ 9223372036854775807 := by omega
  have m1 : 1 + oi.size + 1 ≤ 9223372036854775807 := by omega
  have m2 : 1 + oi.size + 1 + X.size ≤ 9223372036854775807 := by omega
  have m3 : 1 + oi.size + 1 + X.size + 2 ≤ 9223372036854775807 := by omega
  have m4 : 1 + oi.size + 1 + X.size + 2 + oj.size ≤ 9223372036854775807 := by omega
  have m5 : 1 + oi.size + 1 + X.size + 2 + oj.size + 1 ≤ 9223372036854775807 := by omega
  have m6 : 1 + oi.size + 1 + X.size + 2 + oj.size + 1 + Y.size ≤ 9223372036854775807 := by omega
  have m7 : 1 + oi.size + 1 + X.size + 2 + oj.size + 1 + Y.size + 1 ≤ 9223372036854775807 := by omega
  have m8 : 1 + oi.size + 1 + X.size + 2 + oj.size + 1 + Y.size + 1 + Z.size ≤ 9223372036854775807 := by omega
  have m9 : 1 + oi.size + 1 + X.size + 2 + oj.size + 1 + Y.size + 1 + Z.size + 2 ≤ 9223372036854775807 := by omega
  go_wp2_with fail
  go_quiet (fail)
  clear k0 k1 k2 k3 k4 k5 k6 k7 k8 k9
  by_cases hlt : strN oi < strN oj
  · have hd : decide (strN oi < strN oj) = true := decide_eq_true hlt
    have HW := Lib.hid (HW1.out hlt)
    clear hlt
    go_wp2_with fail
    go_quiet (fail)
    go_wp2_with fail
    go_quiet (fail)
    go_wp2_with fail
    rw [HW.out]
    have HD : Hid (∀ n, Below w4.heap.size w4 (w4.drewN n)) := Lib.hid (fun n => below_drewN (Below.refl _ _) n)
    refine (HTX.out _ (HD.out _)).mono ?_
    rintro e w5 ⟨rfl, hb5⟩
    have HB5 : Hid (Below w4.heap.size w4 w5) := Lib.hid ((HD.out _).trans (hb5.mono (HD.out _).size))
    clear hb5
    go_wp2_with fail
    refine (HSX.out w5 HB5.out).mono ?_
    rintro e w6 ⟨rfl, hb6⟩
    have HB6 : Hid (Below w4.heap.size w4 w6) := Lib.hid (HB5.out.trans (hb6.mono HB5.out.size))
    have HB7 : Hid (Below w.heap.size w w6) := Lib.hid (HBw.out.trans (HB6.out.mono HBw.out.size))
    clear hb6
    go_wp2_with fail
    refine (HAW.out w6 HB7.out).mono ?_
    rintro e w7 ⟨rfl, hb7⟩
    go_wp2_with fail
    go_ret
    exact ⟨rfl, HB7.out.trans (hb7.mono HB7.out.size)⟩
  · have hd : decide (strN oi < strN oj) = false := decide_eq_false hlt
    have HW := Lib.hid (HW2.out hlt)
    clear hlt
    clear m0 m1 m2 m3 m4 m5 m6 m7 m8 m9
    go_wp2_with fail
    go_quiet (fail)
    go_wp2_with fail
    rw [HW.out]
    have HD : Hid (∀ n, Below w4.heap.size w4 (w4.drewN n)) := Lib.hid (fun n => below_drewN (Below.refl _ _) n)
    refine (HTX.out _ (HD.out _)).mono ?_
    rintro e w5 ⟨rfl, hb5⟩
    have HB5 : Hid (Below w4.heap.size w4 w5) := Lib.hid ((HD.out _).trans (hb5.mono (HD.out _).size))
    clear hb5
    go_wp2_with fail
    refine (HSX.out w5 HB5.out).mono ?_
    rintro e w6 ⟨rfl, hb6⟩
    have HB6 : Hid (Below w4.heap.size w4 w6) := Lib.hid (HB5.out.trans (hb6.mono HB5.out.size))
    have HB7 : Hid (Below w.heap.size w w6) := Lib.hid (HBw.out.trans (HB6.out.mono HBw.out.size))
    clear hb6
    go_wp2_with fail
    refine (HAW.out w6 HB7.out).mono ?_
    rintro e w7 ⟨rfl, hb7⟩
    go_wp2_with fail
    go_ret
    exact ⟨rfl, HB7.out.trans (hb7.mono HB7.out.size)⟩

theorem u16_wf {n : Int} (h : (Lit.int .u16 n).wf = true) : 0 ≤ n ∧ n ≤ 65535 := by
  simpa [Lit.wf, IntKind.min, IntKind.max, IntKind.signed, IntKind.bits] using h

set_option maxRecDepth 100000 in
theorem arithLeft_open {H : Type} {enc : TypeId × Value → H} {d0 d1 d2 d3 d4 : DataW H} {p0 p1 p2 p3 p4 : List MemPlace} {q : Prop} (W : World) (base : Nat) (v0 v1 v2 v3 v4 : Value)
    (h0 : DataW.Trod enc Tryd.prog W 0 (fun _ => true) true 3 v0 d0 p0) (h1 : DataW.Trod enc Tryd.prog W 0 (fun _ => true) true 3 v1 d1 p1) (h2 : DataW.Trod enc Tryd.prog W 0 (fun _ => true) true 42 v2 d2 p2) (h3 : DataW.Trod enc Tryd.prog W 0 (fun _ => true) true 42 v3 d3 p3) (h4 : DataW.Trod enc Tryd.prog W 0 (fun _ => true) true 42 v4 d4 p4)
    (k0 : Value.okWide Tryd.prog W .any base 3 v0) (k1 : Value.okWide Tryd.prog W .any base 3 v1) (k2 : Value.okWide Tryd.prog W .any base 42 v2) (k3 : Value.okWide Tryd.prog W .any base 42 v3) (k4 : Value.okWide Tryd.prog W .any base 42 v4) (_ : q) (hL : laidMetH Tryd.prog Rows.arithLeftRow.laid W) :
    Calls Tryd.prog 5 #[v0, v1, v2, v3, v4] W fun e W' => e = .returned (.bool true) ∧ Below W.heap.size W W' := by
  obtain ⟨i, rfl, rfl, rfl, _⟩ := ChangeShapes.open_int Tryd.underlying3 k0 h0
  obtain ⟨j, rfl, rfl, rfl, _⟩ := ChangeShapes.open_int Tryd.underlying3 k1 h1
  obtain ⟨x, rfl, rfl, rfl, wx⟩ := ChangeShapes.open_int Tryd.underlying42 k2 h2
  obtain ⟨y, rfl, rfl, rfl, wy⟩ := ChangeShapes.open_int Tryd.underlying42 k3 h3
  obtain ⟨z, rfl, rfl, rfl, wz⟩ := ChangeShapes.open_int Tryd.underlying42 k4 h4
  obtain ⟨x0, x1⟩ := u16_wf wx
  obtain ⟨y0, y1⟩ := u16_wf wy
  obtain ⟨z0, z1⟩ := u16_wf wz
  obtain ⟨xn, rfl⟩ : ∃ n : Nat, x = n := ⟨x.toNat, by omega⟩
  obtain ⟨yn, rfl⟩ : ∃ n : Nat, y = n := ⟨y.toNat, by omega⟩
  obtain ⟨zn, rfl⟩ : ∃ n : Nat, z = n := ⟨z.toNat, by omega⟩
  obtain ⟨s, he, hT⟩ := ar_of_laid (by kernel_rfl) ⟨("math/bits.deBruijn32tab", Rows.laid_math_bits_deBruijn32tab), ("math/bits.deBruijn64tab", Rows.laid_math_bits_deBruijn64tab), by kernel_rfl⟩ hL
  exact left_any i j xn yn zn s W (by omega) (by omega) (by omega) he hT
end Go.Proofs.YtlmoeldillpamaaDoor
