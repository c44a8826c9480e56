/- KTb: several texts in one (kmerge.py). -/
import Derived.Test.YthmgcebonplcgaaGreatDoorReTa
import Derived.Lib.AppendIntMem
import Derived.Deep.LoopGhost
import Derived.Lib.SlBytesConst
import Derived.Test.YthmgcebonplcgaaGreatDoorKEq
import Derived.Test.YthmgcebonplcgaaGreatDoorKSy
/- The text of a tree with kids (gen_retb.py). -/
namespace Go.Proofs.YthmgcebonplcgaaGreatDoor
open Go.RowKit

/-- The table that the texts of numbers read. -/
def TPr (w : World) : Prop := Lib.TabIs Tryz.prog w "internal/strconv.uint64pow10" .u64 Lib.pow10Tab
theorem TPr.below {W0 w : World} (h : TPr W0) (hb : Below W0.heap.size W0 w) : TPr w := Go.Joins.tab_stays (g := 23) (by kernel_rfl) h hb (Nat.le_refl _)
theorem itoa_any (n : Int) (w : World) (h0 : -9223372036854775808 ≤ n) (h1 : n ≤ 9223372036854775807) (h : TPr w) :
    Calls Tryz.prog 33 #[.int .i64 n] w fun e w' => e = .returned (.string ⟨(Lib.itoa n).toArray⟩) ∧ Below w.heap.size w w' := by
  refine (Tryz.strconv_Itoa n h0 h1 w h).mono ?_
  rintro e w' ⟨rfl, k, os, rfl⟩
  exact ⟨rfl, Lib.below_grow _ w (Nat.le_refl _) k os⟩
set_option maxHeartbeats 4000000 in
theorem bound_any (n : Int) (w : World) (h0 : -9223372036854775808 ≤ n) (h1 : n ≤ 9223372036854775807) (h : TPr w) :
    Calls Tryz.prog 34 #[.int .i64 n] w fun e w' => e = .returned (.string ⟨(maxT n).toArray⟩) ∧ Below w.heap.size w w' := by
  have HI := Lib.hid (itoa_any n w h0 h1 h)
  by_cases hn : n = -1
  · subst hn
    go_enter Tryz.func34, Tryz.ntmps34
    go_wp2
    go_ret
    exact ⟨rfl, Below.refl _ _⟩
  · have e1 : (n == -1) = false := by simpa using hn
    have HM : Hid (maxT n = Lib.itoa n) := Lib.hid (by unfold maxT; rw [if_neg hn])
    rw [HM.out]
    clear hn h
    go_enter Tryz.func34, Tryz.ntmps34
    go_wp2_with fail
    refine HI.out.mono ?_
    rintro x w1 ⟨rfl, hb⟩
    have HB := Lib.hid hb
    clear hb
    go_wp2
    go_ret
    exact ⟨rfl, HB.out⟩
theorem str_row {w : World} {b : Nat} {vs : List Value} (hb : w.heap[b]? = some (.cells vs.toArray 9 (0, 0))) (B : Nat) (hB : B ≤ b) (hl : vs.length ≤ 3) : w.ownsRow B 9 1 (.slice (some ⟨b, 0, none⟩) vs.length vs.length) vs.length vs :=
  ⟨by omega, Or.inr ⟨b, vs.length, _, rfl, hB, hb, Nat.le_refl _, by unfold maxLen; omega, by simp, by simp⟩⟩
/-- The state of the loop over the kids. -/
structure TxL (W : World) (nh : Nat) (h : List (List UInt8)) (l : List Nd) (k : Nat) (v : Value) (wr : World) : Prop where
  bel : Below W.heap.size W wr
  own : wr.ownsRow W.heap.size 9 1 v (nh + k) ((h ++ (l.take k).map Nd.txt).map strV)

set_option maxRecDepth 100000 in
set_option maxHeartbeats 8000000 in
theorem text_cat (n : Nd) (l : List Nd) (a : Option Addr) (m c : Nat) (S : Nat → Prop) (w : World) (hk : n.kd = 4) (hl : n.kids = fo l) (hin : n.In w S (.slice a m c)) (_hP : TPr w) (_hf1 : -9223372036854775808 ≤ n.mn ∧ n.mn ≤ 9223372036854775807) (_hf2 : -9223372036854775808 ≤ n.mx ∧ n.mx ≤ 9223372036854775807) (_hf3 : -9223372036854775808 ≤ n.gp ∧ n.gp ≤ 9223372036854775807) (hnl : l.length ≤ 1000000) (hjl : (Lib.join (([[99, 97, 116]]) ++ l.map Nd.txt) [32]).length ≤ 140737488355328)
    (ih : ∀ k (h : k < l.length) a' m' c' W, (l[k]).In w S (.slice a' m' c') → Below w.heap.size w W → Calls Tryz.prog 20 #[(l[k]).v (.slice a' m' c')] W (TxP (l[k]) W)) :
    Calls Tryz.prog 20 #[n.v (.slice a m c)] w (TxP n w) := by
  obtain ⟨W, hW⟩ : ∃ W, W = w.alloc (.cells (n.cells (.slice a m c)).toArray 39) := ⟨_, rfl⟩
  have hbx : W.heap[w.heap.size]? = some (.cells (n.cells (.slice a m c)).toArray 39 (0, 0)) := by rw [hW]; exact alloc_last w _
  have hb : Below w.heap.size w W := by rw [hW]; exact (Below.refl _ _).alloc (Nat.le_refl _) _
  have HNZ : Hid (W.heap.size = w.heap.size + 1) := Lib.hid (by rw [hW]; simp)
  have c0 : W.cell? ⟨w.heap.size, 0, none⟩ = some (.int .i64 4) := (Lib.cell_of_heap hbx 0).trans (by rw [← hk]; rfl)
  have HTX : Hid (n.txt = parT (([[99, 97, 116]]) ++ l.map Nd.txt)) := Lib.hid (by unfold Nd.txt nodeT headT; rw [hk, hl, txt_fo]; rfl)
  have hlen : m = l.length := by
    obtain ⟨ks, h1, _⟩ := hin
    obtain ⟨_, cap, e⟩ := h1.shape
    simp only [Value.slice.injEq] at e
    rw [e.2.1, hl, fo_len]
  subst hlen
  have HKD : Hid (∀ k (h : k < l.length), ∃ kg kcap cur kv, Value.slice a l.length c = .slice (some ⟨kg, 0, none⟩) l.length kcap ∧ kg < w.heap.size ∧ w.heap[kg]? = some (.cells cur 39 (0, 0)) ∧ (l[k]).In w S kv ∧ (∀ i u, ((l[k]).cells kv)[i]? = some u → cur[k * 9 + i]? = some u)) := Lib.hid (fun k h => by
    obtain ⟨ks, ⟨hown, _⟩, hlay⟩ := hin
    rw [hl] at hlay
    obtain ⟨kv, hki, hkc⟩ := lay_at hlay (List.getElem?_eq_getElem h)
    obtain ⟨_, ⟨hn0, hz⟩ | ⟨g, cap, cur, hv, _, hg, hnc, _, hcs, htk⟩⟩ := hown
    · rw [hl, fo_len] at hz
      omega
    · refine ⟨g, cap, cur, kv, ?_, lt_blkB hg, hg, hki, fun i u hu => ?_⟩
      · simp only [Value.slice.injEq] at hv ⊢
        exact ⟨hv.1, trivial, hv.2.2⟩
      · have hi9 : i < 9 := (List.getElem?_eq_some_iff.1 hu).1
        have h1 := (hkc i hi9).trans hu
        rw [← htk, List.getElem?_take] at h1
        split at h1
        · simpa using h1
        · cases h1)
  have HIH := Lib.hid ih
  have HLN : Hid ((Lib.join (([[99, 97, 116]]) ++ l.map Nd.txt) (ByteArray.data ⟨#[32]⟩).toList).length ≤ 140737488355328) := Lib.hid hjl
  have HBX := Lib.hid hbx
  have HBW := Lib.hid hb
  have HWE := Lib.hid hW
  have HNV : Hid (n.v (.slice a l.length c) = .agg (n.cells (.slice a l.length c)).toArray) := Lib.hid rfl
  rw [HNV.out]
  obtain ⟨W1, hW1⟩ : ∃ W1, W1 = W.alloc (.cells #[.string ⟨#[99, 97, 116]⟩] 9) := ⟨_, rfl⟩
  have hb1 : Below W.heap.size W W1 := by rw [hW1]; exact (Below.refl _ _).alloc (Nat.le_refl _) _
  have hN1 : W1.heap[W.heap.size]? = some (.cells #[.string ⟨#[99, 97, 116]⟩] 9 (0, 0)) := by rw [hW1]; exact alloc_last _ _
  have HO1 : Hid (W1.ownsRow W.heap.size 9 1 (.slice (some ⟨W.heap.size, 0, none⟩) 1 1) 1 (([[99, 97, 116]]).map strV)) := Lib.hid (str_row (vs := [.string ⟨#[99, 97, 116]⟩]) hN1 _ (Nat.le_refl _) (by decide))
  have HB1 := Lib.hid hb1
  have c8 : W1.cell? ⟨w.heap.size, 8, none⟩ = some (.slice a l.length c) := (Lib.cell_of_heap (blk_below hbx hb1) 8).trans rfl
  have HW1 := Lib.hid hW1
  clear hbx hb hW hk hl hin _hP _hf1 _hf2 _hf3 hjl ih hW1 hb1 hN1
  unfold TxP
  generalize (n.cells (.slice a l.length c)).toArray = cs at *
  go_enter Tryz.func20, Tryz.ntmps20
  go_upto_region 1 with fail
  rw [← HWE.out]
  go_upto_region 20 with fail
  rw [← HW1.out]
  clear c0
  obtain ⟨i1, ki, kz0, kz1, kz2⟩ := info_parts string_row
  have HKI := Lib.hid ki
  have HZ0 := Lib.hid kz0
  have HZ1 := Lib.hid kz1
  have HZ2 := Lib.hid kz2
  clear ki kz0 kz1 kz2
  go_upto_region 21 with fail
  clear c8
  go_loopg [3, 45] (l.length) (fun g v i wr => ∃ k : Nat, g = l.length - k ∧ k ≤ l.length ∧ i = .int .i64 k ∧ Aside (TxL W 1 ([[99, 97, 116]]) l k v wr))
  case atStart => exact ⟨0, by omega, Nat.zero_le _, rfl, ⟨HB1.out, by simpa using HO1.out⟩⟩
  case round =>
    obtain ⟨k, rfl, hk, rfl, hal⟩ := hrel
    have hI := hal.out
    have hbr := hI.bel
    have hnz : w.heap.size < W.heap.size := by have := HNZ.out; omega
    have hwz := hbr.size
    by_cases hlt : k < l.length
    · obtain ⟨kg, kcap, cur, kv, hka, hgw, hcur, hin, hcl⟩ := HKD.out k hlt
      obtain ⟨ta, tm, tc, rfl⟩ := hin.shape
      simp only [Value.slice.injEq] at hka
      obtain ⟨rfl, _, rfl⟩ := hka
      have hlti : (k : Int) < (l.length : Int) := by omega
      have hk0 : (0 : Int) ≤ (k : Int) := by omega
      have hX : wr.heap[kg]? = some (.cells cur 39 (0, 0)) := (hbr.block kg (by omega)).trans ((HBW.out.block kg hgw).trans hcur)
      have hgk := lt_blkB hX
      obtain ⟨nd, hnd⟩ : ∃ nd, nd = l[k] := ⟨_, rfl⟩
      rw [← hnd] at hin hcl
      have hbn : w.heap.size < wr.heap.size := by omega
      obtain ⟨W5, hW5⟩ : ∃ W5, W5 = wr.alloc (.cells zero9 39) := ⟨_, rfl⟩
      have hT5 : W5.heap[wr.heap.size]? = some (.cells zero9 39 (0, 0)) := by rw [hW5]; exact alloc_last _ _
      obtain ⟨W6, hW6⟩ : ∃ W6, W6 = W5.setRow wr.heap.size (nd.cells (.slice ta tm tc)).toArray := ⟨_, rfl⟩
      have hb6 : Below wr.heap.size wr W6 := by rw [hW6, hW5]; exact below_setRow ((Below.refl _ _).alloc (Nat.le_refl _) _) (Nat.le_refl _) _
      have HT6 : Hid (W6.heap[wr.heap.size]? = some (.cells (nd.cells (.slice ta tm tc)).toArray 39 (0, 0))) := Lib.hid (by rw [hW6]; exact setRow_selfR hT5 _)
      have hbw6 : Below w.heap.size w W6 := HBW.out.trans ((hbr.mono (by omega)).trans (hb6.mono (by omega)))
      have HRE := Lib.hid (HIH.out k hlt ta tm tc W6 (by rw [← hnd]; exact hin) hbw6)
      rw [← hnd] at HRE
      have HB6 : Hid (Below W.heap.size W W6) := Lib.hid (hbr.trans (hb6.mono hwz))
      have hz6 : wr.heap.size < W6.heap.size := lt_blkB HT6.out
      obtain ⟨va, vc, hv⟩ := own_shapeT hI.own
      subst hv
      have HO6 : Hid (W6.ownsRow W.heap.size 9 1 (.slice va (1 + k) vc) (1 + k) ((([[99, 97, 116]]) ++ (l.take k).map Nd.txt).map strV)) := Lib.hid (own_same hI.own fun b hb cs hc => hb6.block b (lt_blkB hc))
      have HX := Lib.hid hX
      have HCL := Lib.hid hcl
      have HT5 := Lib.hid hT5
      have HW5 := Lib.hid hW5
      have HW6 := Lib.hid hW6
      have HTK : Hid ((l.take (k + 1)).map Nd.txt = (l.take k).map Nd.txt ++ [nd.txt]) := Lib.hid (by rw [hnd, List.take_succ_eq_append_getElem hlt, List.map_append]; rfl)
      obtain ⟨xs, hxs⟩ : ∃ xs, xs = (([[99, 97, 116]]) ++ (l.take k).map Nd.txt).map strV := ⟨_, rfl⟩
      rw [← hxs] at HO6
      have HXS := Lib.hid hxs
      clear hal hI hbr hX hcl hcur hin hnd hxs hW5 hT5 hW6 hb6 hbw6 hgw
      unfold zero9 at HW5
      go_upto_region 23 with (first | (refine wpList_load_part rfl 39 _ rfl kg (k * 9) rfl _ cur (nd.cells (.slice ta tm tc)) (0, 0) _ HX.out HCL.out Tryz.underlying39 rfl re_size ?_) | (rw [← HW5.out]; refine wpList_store_re rfl _ _ rfl rfl wr.heap.size nd ta tm tc rfl rfl _ HT5.out rfl ?_; rw [← HW6.out]) | fail)
      go_wp2_with (first | (refine wpList_load_row rfl 39 _ rfl wr.heap.size rfl _ _ (0, 0) _ HT6.out Tryz.underlying39 rfl re_size ?_) | fail)
      refine HRE.out.mono ?_
      rintro x w7 ⟨rfl, hb7⟩
      obtain ⟨s, hs⟩ : ∃ s, s = (⟨nd.txt.toArray⟩ : ByteArray) := ⟨_, rfl⟩
      rw [← hs]
      obtain ⟨W8, hW8⟩ : ∃ W8, W8 = w7.alloc (.cells #[.string s] 9) := ⟨_, rfl⟩
      have hb8 : Below W6.heap.size W6 W8 := by rw [hW8]; exact hb7.alloc hb7.size _
      have hN8 : W8.heap[w7.heap.size]? = some (.cells #[.string s] 9 (0, 0)) := by rw [hW8]; exact alloc_last _ _
      have hz8 := lt_blkB hN8
      have hz7 := hb7.size
      have hO8 : W8.ownsRow W.heap.size 9 1 (.slice va (1 + k) vc) (1 + k) xs := own_same HO6.out fun b hb cs hc => hb8.block b (lt_blkB hc)
      have HB8 : Hid (Below W.heap.size W W8) := Lib.hid (HB6.out.trans (hb8.mono (by omega)))
      have HN8 := Lib.hid hN8
      have HO8 := Lib.hid hO8
      have HSV : Hid ([Value.string s] = [nd.txt].map strV) := Lib.hid (by rw [hs]; rfl)
      clear hb7 hb8 hN8 hO8 hs HO6 HB6 HRE HT6 HX HCL HT5
      subst hW8
      go_wp2_with (first | (at_builtin; refine wpList_append_own_at _ rfl (.tmp 49) (.tmp 52) 83 rfl W.heap.size 9 i1 (.string ⟨#[]⟩) 1 16 Tryz.underlying83 HKI.out HZ0.out HZ1.out HZ2.out rfl (by decide) (.slice va (1 + k) vc) (1 + k) xs rfl HO8.out ⟨w7.heap.size, 0, none⟩ 1 1 [.string s] rfl rfl ?hnews ?hone ?h63 ?hby ?hba ?_))
      case hnews => (intro j u hj; rw [addz]; rw [Lib.cell_of_heap HN8.out]; simpa using hj)
      case hone => (intro u hu; rw [List.mem_singleton.1 hu]; rfl)
      case h63 => (unfold maxLen; omega)
      case hby => omega
      case hba => omega
      intro v' w' ho' hg' _ _
      have hob := own_row HO8.out
      have hbf : Below W.heap.size W w' := by
        have h8 := HB8.out
        exact ⟨hg'.os.trans h8.os, hg'.tape.trans h8.tape, hg'.output.trans h8.output, Nat.le_trans h8.size hg'.size, fun i hi => (hg'.block i (by have := h8.size; omega) (fun e => by have := (hob i e.symm).1; omega)).trans (h8.block i hi)⟩
      have HBF := Lib.hid hbf
      have HOF := Lib.hid (show w'.ownsRow W.heap.size 9 1 v' (1 + (k + 1)) ((([[99, 97, 116]]) ++ (l.take (k + 1)).map Nd.txt).map strV) from by
        rw [HTK.out, ← List.append_assoc, List.map_append, ← HSV.out, ← HXS.out, ← Nat.add_assoc]
        exact ho')
      clear hob hbf ho' hg' HO8 HB8 HN8
      go_wp2_with fail
      go_roundg (l.length - (k + 1))
      case measure => omega
      case rel => exact ⟨k + 1, rfl, by omega, by simp, ⟨HBF.out, HOF.out⟩⟩
    · obtain rfl : k = l.length := by omega
      have hnl : ¬ (l.length : Int) < (l.length : Int) := by omega
      obtain ⟨va, vc, hv⟩ := own_shapeT hI.own
      subst hv
      have hwd : (([[99, 97, 116]]) ++ (l.take l.length).map Nd.txt) = ([[99, 97, 116]]) ++ l.map Nd.txt := by rw [List.take_length]
      have hown := hI.own
      rw [hwd] at hown
      have hwl : (([[99, 97, 116]]) ++ l.map Nd.txt).length = 1 + l.length := by simp only [List.length_append, List.length_map, List.length_cons, List.length_nil] <;> omega
      have hown2 : wr.ownsRow W.heap.size 9 1 (.slice va (1 + l.length) vc) (([[99, 97, 116]]) ++ l.map Nd.txt).length ((([[99, 97, 116]]) ++ l.map Nd.txt).map strV) := by rw [hwl]; exact hown
      have HJ := Lib.hid (join_own ⟨#[32]⟩ wr hown2 (by rw [hwl]; omega) HLN.out)
      have hjs : (⟨(Lib.join (([[99, 97, 116]]) ++ l.map Nd.txt) [32]).toArray⟩ : ByteArray).size ≤ 140737488355328 := HLN.out
      have HTS : Hid ((⟨#[40]⟩ : ByteArray) ++ ⟨(Lib.join (([[99, 97, 116]]) ++ l.map Nd.txt) [32]).toArray⟩ ++ ⟨#[41]⟩ = ⟨n.txt.toArray⟩) := Lib.hid (by rw [HTX.out]; apply ByteArray.ext; simp [parT])
      have HBR := Lib.hid hbr
      change Hid (Calls _ _ _ _ fun e w' => e = .returned (.string ⟨(Lib.join (([[99, 97, 116]]) ++ l.map Nd.txt) [32]).toArray⟩) ∧ _) at HJ
      generalize (⟨(Lib.join (([[99, 97, 116]]) ++ l.map Nd.txt) [32]).toArray⟩ : ByteArray) = J at *
      clear hal hI hbr hown hown2 hwd hwl hlt hk
      go_wp2_with fail
      refine HJ.out.mono ?_
      rintro x w9 ⟨rfl, hb9⟩
      have HBF : Hid (Below w.heap.size w w9) := Lib.hid (HBW.out.trans ((HBR.out.mono (by omega)).trans (hb9.mono (by omega))))
      clear hb9
      go_wp2
      go_ret
      exact ⟨congrArg (fun b => Ending.returned (Value.string b)) HTS.out, HBF.out⟩
set_option maxRecDepth 100000 in
set_option maxHeartbeats 8000000 in
theorem text_alt (n : Nd) (l : List Nd) (a : Option Addr) (m c : Nat) (S : Nat → Prop) (w : World) (hk : n.kd = 5) (hl : n.kids = fo l) (hin : n.In w S (.slice a m c)) (_hP : TPr w) (_hf1 : -9223372036854775808 ≤ n.mn ∧ n.mn ≤ 9223372036854775807) (_hf2 : -9223372036854775808 ≤ n.mx ∧ n.mx ≤ 9223372036854775807) (_hf3 : -9223372036854775808 ≤ n.gp ∧ n.gp ≤ 9223372036854775807) (hnl : l.length ≤ 1000000) (hjl : (Lib.join (([[97, 108, 116]]) ++ l.map Nd.txt) [32]).length ≤ 140737488355328)
    (ih : ∀ k (h : k < l.length) a' m' c' W, (l[k]).In w S (.slice a' m' c') → Below w.heap.size w W → Calls Tryz.prog 20 #[(l[k]).v (.slice a' m' c')] W (TxP (l[k]) W)) :
    Calls Tryz.prog 20 #[n.v (.slice a m c)] w (TxP n w) := by
  obtain ⟨W, hW⟩ : ∃ W, W = w.alloc (.cells (n.cells (.slice a m c)).toArray 39) := ⟨_, rfl⟩
  have hbx : W.heap[w.heap.size]? = some (.cells (n.cells (.slice a m c)).toArray 39 (0, 0)) := by rw [hW]; exact alloc_last w _
  have hb : Below w.heap.size w W := by rw [hW]; exact (Below.refl _ _).alloc (Nat.le_refl _) _
  have HNZ : Hid (W.heap.size = w.heap.size + 1) := Lib.hid (by rw [hW]; simp)
  have c0 : W.cell? ⟨w.heap.size, 0, none⟩ = some (.int .i64 5) := (Lib.cell_of_heap hbx 0).trans (by rw [← hk]; rfl)
  have HTX : Hid (n.txt = parT (([[97, 108, 116]]) ++ l.map Nd.txt)) := Lib.hid (by unfold Nd.txt nodeT headT; rw [hk, hl, txt_fo]; rfl)
  have hlen : m = l.length := by
    obtain ⟨ks, h1, _⟩ := hin
    obtain ⟨_, cap, e⟩ := h1.shape
    simp only [Value.slice.injEq] at e
    rw [e.2.1, hl, fo_len]
  subst hlen
  have HKD : Hid (∀ k (h : k < l.length), ∃ kg kcap cur kv, Value.slice a l.length c = .slice (some ⟨kg, 0, none⟩) l.length kcap ∧ kg < w.heap.size ∧ w.heap[kg]? = some (.cells cur 39 (0, 0)) ∧ (l[k]).In w S kv ∧ (∀ i u, ((l[k]).cells kv)[i]? = some u → cur[k * 9 + i]? = some u)) := Lib.hid (fun k h => by
    obtain ⟨ks, ⟨hown, _⟩, hlay⟩ := hin
    rw [hl] at hlay
    obtain ⟨kv, hki, hkc⟩ := lay_at hlay (List.getElem?_eq_getElem h)
    obtain ⟨_, ⟨hn0, hz⟩ | ⟨g, cap, cur, hv, _, hg, hnc, _, hcs, htk⟩⟩ := hown
    · rw [hl, fo_len] at hz
      omega
    · refine ⟨g, cap, cur, kv, ?_, lt_blkB hg, hg, hki, fun i u hu => ?_⟩
      · simp only [Value.slice.injEq] at hv ⊢
        exact ⟨hv.1, trivial, hv.2.2⟩
      · have hi9 : i < 9 := (List.getElem?_eq_some_iff.1 hu).1
        have h1 := (hkc i hi9).trans hu
        rw [← htk, List.getElem?_take] at h1
        split at h1
        · simpa using h1
        · cases h1)
  have HIH := Lib.hid ih
  have HLN : Hid ((Lib.join (([[97, 108, 116]]) ++ l.map Nd.txt) (ByteArray.data ⟨#[32]⟩).toList).length ≤ 140737488355328) := Lib.hid hjl
  have HBX := Lib.hid hbx
  have HBW := Lib.hid hb
  have HWE := Lib.hid hW
  have HNV : Hid (n.v (.slice a l.length c) = .agg (n.cells (.slice a l.length c)).toArray) := Lib.hid rfl
  rw [HNV.out]
  obtain ⟨W1, hW1⟩ : ∃ W1, W1 = W.alloc (.cells #[.string ⟨#[97, 108, 116]⟩] 9) := ⟨_, rfl⟩
  have hb1 : Below W.heap.size W W1 := by rw [hW1]; exact (Below.refl _ _).alloc (Nat.le_refl _) _
  have hN1 : W1.heap[W.heap.size]? = some (.cells #[.string ⟨#[97, 108, 116]⟩] 9 (0, 0)) := by rw [hW1]; exact alloc_last _ _
  have HO1 : Hid (W1.ownsRow W.heap.size 9 1 (.slice (some ⟨W.heap.size, 0, none⟩) 1 1) 1 (([[97, 108, 116]]).map strV)) := Lib.hid (str_row (vs := [.string ⟨#[97, 108, 116]⟩]) hN1 _ (Nat.le_refl _) (by decide))
  have HB1 := Lib.hid hb1
  have c8 : W1.cell? ⟨w.heap.size, 8, none⟩ = some (.slice a l.length c) := (Lib.cell_of_heap (blk_below hbx hb1) 8).trans rfl
  have HW1 := Lib.hid hW1
  clear hbx hb hW hk hl hin _hP _hf1 _hf2 _hf3 hjl ih hW1 hb1 hN1
  unfold TxP
  generalize (n.cells (.slice a l.length c)).toArray = cs at *
  go_enter Tryz.func20, Tryz.ntmps20
  go_upto_region 1 with fail
  rw [← HWE.out]
  go_upto_region 20 with fail
  rw [← HW1.out]
  clear c0
  obtain ⟨i1, ki, kz0, kz1, kz2⟩ := info_parts string_row
  have HKI := Lib.hid ki
  have HZ0 := Lib.hid kz0
  have HZ1 := Lib.hid kz1
  have HZ2 := Lib.hid kz2
  clear ki kz0 kz1 kz2
  go_upto_region 21 with fail
  clear c8
  go_loopg [3, 45] (l.length) (fun g v i wr => ∃ k : Nat, g = l.length - k ∧ k ≤ l.length ∧ i = .int .i64 k ∧ Aside (TxL W 1 ([[97, 108, 116]]) l k v wr))
  case atStart => exact ⟨0, by omega, Nat.zero_le _, rfl, ⟨HB1.out, by simpa using HO1.out⟩⟩
  case round =>
    obtain ⟨k, rfl, hk, rfl, hal⟩ := hrel
    have hI := hal.out
    have hbr := hI.bel
    have hnz : w.heap.size < W.heap.size := by have := HNZ.out; omega
    have hwz := hbr.size
    by_cases hlt : k < l.length
    · obtain ⟨kg, kcap, cur, kv, hka, hgw, hcur, hin, hcl⟩ := HKD.out k hlt
      obtain ⟨ta, tm, tc, rfl⟩ := hin.shape
      simp only [Value.slice.injEq] at hka
      obtain ⟨rfl, _, rfl⟩ := hka
      have hlti : (k : Int) < (l.length : Int) := by omega
      have hk0 : (0 : Int) ≤ (k : Int) := by omega
      have hX : wr.heap[kg]? = some (.cells cur 39 (0, 0)) := (hbr.block kg (by omega)).trans ((HBW.out.block kg hgw).trans hcur)
      have hgk := lt_blkB hX
      obtain ⟨nd, hnd⟩ : ∃ nd, nd = l[k] := ⟨_, rfl⟩
      rw [← hnd] at hin hcl
      have hbn : w.heap.size < wr.heap.size := by omega
      obtain ⟨W5, hW5⟩ : ∃ W5, W5 = wr.alloc (.cells zero9 39) := ⟨_, rfl⟩
      have hT5 : W5.heap[wr.heap.size]? = some (.cells zero9 39 (0, 0)) := by rw [hW5]; exact alloc_last _ _
      obtain ⟨W6, hW6⟩ : ∃ W6, W6 = W5.setRow wr.heap.size (nd.cells (.slice ta tm tc)).toArray := ⟨_, rfl⟩
      have hb6 : Below wr.heap.size wr W6 := by rw [hW6, hW5]; exact below_setRow ((Below.refl _ _).alloc (Nat.le_refl _) _) (Nat.le_refl _) _
      have HT6 : Hid (W6.heap[wr.heap.size]? = some (.cells (nd.cells (.slice ta tm tc)).toArray 39 (0, 0))) := Lib.hid (by rw [hW6]; exact setRow_selfR hT5 _)
      have hbw6 : Below w.heap.size w W6 := HBW.out.trans ((hbr.mono (by omega)).trans (hb6.mono (by omega)))
      have HRE := Lib.hid (HIH.out k hlt ta tm tc W6 (by rw [← hnd]; exact hin) hbw6)
      rw [← hnd] at HRE
      have HB6 : Hid (Below W.heap.size W W6) := Lib.hid (hbr.trans (hb6.mono hwz))
      have hz6 : wr.heap.size < W6.heap.size := lt_blkB HT6.out
      obtain ⟨va, vc, hv⟩ := own_shapeT hI.own
      subst hv
      have HO6 : Hid (W6.ownsRow W.heap.size 9 1 (.slice va (1 + k) vc) (1 + k) ((([[97, 108, 116]]) ++ (l.take k).map Nd.txt).map strV)) := Lib.hid (own_same hI.own fun b hb cs hc => hb6.block b (lt_blkB hc))
      have HX := Lib.hid hX
      have HCL := Lib.hid hcl
      have HT5 := Lib.hid hT5
      have HW5 := Lib.hid hW5
      have HW6 := Lib.hid hW6
      have HTK : Hid ((l.take (k + 1)).map Nd.txt = (l.take k).map Nd.txt ++ [nd.txt]) := Lib.hid (by rw [hnd, List.take_succ_eq_append_getElem hlt, List.map_append]; rfl)
      obtain ⟨xs, hxs⟩ : ∃ xs, xs = (([[97, 108, 116]]) ++ (l.take k).map Nd.txt).map strV := ⟨_, rfl⟩
      rw [← hxs] at HO6
      have HXS := Lib.hid hxs
      clear hal hI hbr hX hcl hcur hin hnd hxs hW5 hT5 hW6 hb6 hbw6 hgw
      unfold zero9 at HW5
      go_upto_region 23 with (first | (refine wpList_load_part rfl 39 _ rfl kg (k * 9) rfl _ cur (nd.cells (.slice ta tm tc)) (0, 0) _ HX.out HCL.out Tryz.underlying39 rfl re_size ?_) | (rw [← HW5.out]; refine wpList_store_re rfl _ _ rfl rfl wr.heap.size nd ta tm tc rfl rfl _ HT5.out rfl ?_; rw [← HW6.out]) | fail)
      go_wp2_with (first | (refine wpList_load_row rfl 39 _ rfl wr.heap.size rfl _ _ (0, 0) _ HT6.out Tryz.underlying39 rfl re_size ?_) | fail)
      refine HRE.out.mono ?_
      rintro x w7 ⟨rfl, hb7⟩
      obtain ⟨s, hs⟩ : ∃ s, s = (⟨nd.txt.toArray⟩ : ByteArray) := ⟨_, rfl⟩
      rw [← hs]
      obtain ⟨W8, hW8⟩ : ∃ W8, W8 = w7.alloc (.cells #[.string s] 9) := ⟨_, rfl⟩
      have hb8 : Below W6.heap.size W6 W8 := by rw [hW8]; exact hb7.alloc hb7.size _
      have hN8 : W8.heap[w7.heap.size]? = some (.cells #[.string s] 9 (0, 0)) := by rw [hW8]; exact alloc_last _ _
      have hz8 := lt_blkB hN8
      have hz7 := hb7.size
      have hO8 : W8.ownsRow W.heap.size 9 1 (.slice va (1 + k) vc) (1 + k) xs := own_same HO6.out fun b hb cs hc => hb8.block b (lt_blkB hc)
      have HB8 : Hid (Below W.heap.size W W8) := Lib.hid (HB6.out.trans (hb8.mono (by omega)))
      have HN8 := Lib.hid hN8
      have HO8 := Lib.hid hO8
      have HSV : Hid ([Value.string s] = [nd.txt].map strV) := Lib.hid (by rw [hs]; rfl)
      clear hb7 hb8 hN8 hO8 hs HO6 HB6 HRE HT6 HX HCL HT5
      subst hW8
      go_wp2_with (first | (at_builtin; refine wpList_append_own_at _ rfl (.tmp 49) (.tmp 52) 83 rfl W.heap.size 9 i1 (.string ⟨#[]⟩) 1 16 Tryz.underlying83 HKI.out HZ0.out HZ1.out HZ2.out rfl (by decide) (.slice va (1 + k) vc) (1 + k) xs rfl HO8.out ⟨w7.heap.size, 0, none⟩ 1 1 [.string s] rfl rfl ?hnews ?hone ?h63 ?hby ?hba ?_))
      case hnews => (intro j u hj; rw [addz]; rw [Lib.cell_of_heap HN8.out]; simpa using hj)
      case hone => (intro u hu; rw [List.mem_singleton.1 hu]; rfl)
      case h63 => (unfold maxLen; omega)
      case hby => omega
      case hba => omega
      intro v' w' ho' hg' _ _
      have hob := own_row HO8.out
      have hbf : Below W.heap.size W w' := by
        have h8 := HB8.out
        exact ⟨hg'.os.trans h8.os, hg'.tape.trans h8.tape, hg'.output.trans h8.output, Nat.le_trans h8.size hg'.size, fun i hi => (hg'.block i (by have := h8.size; omega) (fun e => by have := (hob i e.symm).1; omega)).trans (h8.block i hi)⟩
      have HBF := Lib.hid hbf
      have HOF := Lib.hid (show w'.ownsRow W.heap.size 9 1 v' (1 + (k + 1)) ((([[97, 108, 116]]) ++ (l.take (k + 1)).map Nd.txt).map strV) from by
        rw [HTK.out, ← List.append_assoc, List.map_append, ← HSV.out, ← HXS.out, ← Nat.add_assoc]
        exact ho')
      clear hob hbf ho' hg' HO8 HB8 HN8
      go_wp2_with fail
      go_roundg (l.length - (k + 1))
      case measure => omega
      case rel => exact ⟨k + 1, rfl, by omega, by simp, ⟨HBF.out, HOF.out⟩⟩
    · obtain rfl : k = l.length := by omega
      have hnl : ¬ (l.length : Int) < (l.length : Int) := by omega
      obtain ⟨va, vc, hv⟩ := own_shapeT hI.own
      subst hv
      have hwd : (([[97, 108, 116]]) ++ (l.take l.length).map Nd.txt) = ([[97, 108, 116]]) ++ l.map Nd.txt := by rw [List.take_length]
      have hown := hI.own
      rw [hwd] at hown
      have hwl : (([[97, 108, 116]]) ++ l.map Nd.txt).length = 1 + l.length := by simp only [List.length_append, List.length_map, List.length_cons, List.length_nil] <;> omega
      have hown2 : wr.ownsRow W.heap.size 9 1 (.slice va (1 + l.length) vc) (([[97, 108, 116]]) ++ l.map Nd.txt).length ((([[97, 108, 116]]) ++ l.map Nd.txt).map strV) := by rw [hwl]; exact hown
      have HJ := Lib.hid (join_own ⟨#[32]⟩ wr hown2 (by rw [hwl]; omega) HLN.out)
      have hjs : (⟨(Lib.join (([[97, 108, 116]]) ++ l.map Nd.txt) [32]).toArray⟩ : ByteArray).size ≤ 140737488355328 := HLN.out
      have HTS : Hid ((⟨#[40]⟩ : ByteArray) ++ ⟨(Lib.join (([[97, 108, 116]]) ++ l.map Nd.txt) [32]).toArray⟩ ++ ⟨#[41]⟩ = ⟨n.txt.toArray⟩) := Lib.hid (by rw [HTX.out]; apply ByteArray.ext; simp [parT])
      have HBR := Lib.hid hbr
      change Hid (Calls _ _ _ _ fun e w' => e = .returned (.string ⟨(Lib.join (([[97, 108, 116]]) ++ l.map Nd.txt) [32]).toArray⟩) ∧ _) at HJ
      generalize (⟨(Lib.join (([[97, 108, 116]]) ++ l.map Nd.txt) [32]).toArray⟩ : ByteArray) = J at *
      clear hal hI hbr hown hown2 hwd hwl hlt hk
      go_wp2_with fail
      refine HJ.out.mono ?_
      rintro x w9 ⟨rfl, hb9⟩
      have HBF : Hid (Below w.heap.size w w9) := Lib.hid (HBW.out.trans ((HBR.out.mono (by omega)).trans (hb9.mono (by omega))))
      clear hb9
      go_wp2
      go_ret
      exact ⟨congrArg (fun b => Ending.returned (Value.string b)) HTS.out, HBF.out⟩
set_option maxRecDepth 100000 in
set_option maxHeartbeats 8000000 in
theorem text_grp (n : Nd) (l : List Nd) (a : Option Addr) (m c : Nat) (S : Nat → Prop) (w : World) (hk : n.kd = 7) (hl : n.kids = fo l) (hin : n.In w S (.slice a m c)) (hP : TPr w) (_hf1 : -9223372036854775808 ≤ n.mn ∧ n.mn ≤ 9223372036854775807) (_hf2 : -9223372036854775808 ≤ n.mx ∧ n.mx ≤ 9223372036854775807) (hf3 : -9223372036854775808 ≤ n.gp ∧ n.gp ≤ 9223372036854775807) (hnl : l.length ≤ 1000000) (hjl : (Lib.join (([[103, 114, 111, 117, 112], Lib.itoa n.gp]) ++ l.map Nd.txt) [32]).length ≤ 140737488355328)
    (ih : ∀ k (h : k < l.length) a' m' c' W, (l[k]).In w S (.slice a' m' c') → Below w.heap.size w W → Calls Tryz.prog 20 #[(l[k]).v (.slice a' m' c')] W (TxP (l[k]) W)) :
    Calls Tryz.prog 20 #[n.v (.slice a m c)] w (TxP n w) := by
  obtain ⟨W, hW⟩ : ∃ W, W = w.alloc (.cells (n.cells (.slice a m c)).toArray 39) := ⟨_, rfl⟩
  have hbx : W.heap[w.heap.size]? = some (.cells (n.cells (.slice a m c)).toArray 39 (0, 0)) := by rw [hW]; exact alloc_last w _
  have hb : Below w.heap.size w W := by rw [hW]; exact (Below.refl _ _).alloc (Nat.le_refl _) _
  have HNZ : Hid (W.heap.size = w.heap.size + 1) := Lib.hid (by rw [hW]; simp)
  have c0 : W.cell? ⟨w.heap.size, 0, none⟩ = some (.int .i64 7) := (Lib.cell_of_heap hbx 0).trans (by rw [← hk]; rfl)
  have HTX : Hid (n.txt = parT (([[103, 114, 111, 117, 112], Lib.itoa n.gp]) ++ l.map Nd.txt)) := Lib.hid (by unfold Nd.txt nodeT headT; rw [hk, hl, txt_fo]; rfl)
  have hlen : m = l.length := by
    obtain ⟨ks, h1, _⟩ := hin
    obtain ⟨_, cap, e⟩ := h1.shape
    simp only [Value.slice.injEq] at e
    rw [e.2.1, hl, fo_len]
  subst hlen
  have HKD : Hid (∀ k (h : k < l.length), ∃ kg kcap cur kv, Value.slice a l.length c = .slice (some ⟨kg, 0, none⟩) l.length kcap ∧ kg < w.heap.size ∧ w.heap[kg]? = some (.cells cur 39 (0, 0)) ∧ (l[k]).In w S kv ∧ (∀ i u, ((l[k]).cells kv)[i]? = some u → cur[k * 9 + i]? = some u)) := Lib.hid (fun k h => by
    obtain ⟨ks, ⟨hown, _⟩, hlay⟩ := hin
    rw [hl] at hlay
    obtain ⟨kv, hki, hkc⟩ := lay_at hlay (List.getElem?_eq_getElem h)
    obtain ⟨_, ⟨hn0, hz⟩ | ⟨g, cap, cur, hv, _, hg, hnc, _, hcs, htk⟩⟩ := hown
    · rw [hl, fo_len] at hz
      omega
    · refine ⟨g, cap, cur, kv, ?_, lt_blkB hg, hg, hki, fun i u hu => ?_⟩
      · simp only [Value.slice.injEq] at hv ⊢
        exact ⟨hv.1, trivial, hv.2.2⟩
      · have hi9 : i < 9 := (List.getElem?_eq_some_iff.1 hu).1
        have h1 := (hkc i hi9).trans hu
        rw [← htk, List.getElem?_take] at h1
        split at h1
        · simpa using h1
        · cases h1)
  have HIH := Lib.hid ih
  have HLN : Hid ((Lib.join (([[103, 114, 111, 117, 112], Lib.itoa n.gp]) ++ l.map Nd.txt) (ByteArray.data ⟨#[32]⟩).toList).length ≤ 140737488355328) := Lib.hid hjl
  have HBX := Lib.hid hbx
  have HBW := Lib.hid hb
  have HWE := Lib.hid hW
  have HNV : Hid (n.v (.slice a l.length c) = .agg (n.cells (.slice a l.length c)).toArray) := Lib.hid rfl
  rw [HNV.out]
  have HIT := Lib.hid (itoa_any n.gp W hf3.1 hf3.2 (hP.below hb))
  have c7 : W.cell? ⟨w.heap.size, 7, none⟩ = some (.int .i64 n.gp) := (Lib.cell_of_heap hbx 7).trans rfl
  clear hb hW hk hl hin hP _hf1 _hf2 hf3 hjl ih
  unfold TxP
  have HC8 : Hid ((n.cells (.slice a l.length c)).toArray[8]? = some (.slice a l.length c)) := Lib.hid rfl
  generalize (n.cells (.slice a l.length c)).toArray = cs at *
  clear hbx
  go_enter Tryz.func20, Tryz.ntmps20
  go_upto_region 1 with fail
  rw [← HWE.out]
  go_wp2_with fail
  refine HIT.out.mono ?_
  rintro x w0 ⟨rfl, hb0⟩
  obtain ⟨si, hsi⟩ : ∃ si, si = (⟨(Lib.itoa n.gp).toArray⟩ : ByteArray) := ⟨_, rfl⟩
  rw [← hsi]
  obtain ⟨W1, hW1⟩ : ∃ W1, W1 = w0.alloc (.cells #[.string ⟨#[103, 114, 111, 117, 112]⟩, .string si] 9) := ⟨_, rfl⟩
  have hb1 : Below W.heap.size W W1 := by rw [hW1]; exact hb0.alloc hb0.size _
  have hN1 : W1.heap[w0.heap.size]? = some (.cells #[.string ⟨#[103, 114, 111, 117, 112]⟩, .string si] 9 (0, 0)) := by rw [hW1]; exact alloc_last _ _
  have HO1 : Hid (W1.ownsRow W.heap.size 9 1 (.slice (some ⟨w0.heap.size, 0, none⟩) 2 2) 2 (([[103, 114, 111, 117, 112], Lib.itoa n.gp]).map strV)) := Lib.hid (by have := str_row (vs := [.string ⟨#[103, 114, 111, 117, 112]⟩, .string si]) hN1 W.heap.size hb0.size (by simp); rw [hsi] at this; exact this)
  have HB1 := Lib.hid hb1
  have c8 : W1.cell? ⟨w.heap.size, 8, none⟩ = some (.slice a l.length c) := (Lib.cell_of_heap (blk_below HBX.out hb1) 8).trans HC8.out
  have HW1 := Lib.hid hW1
  clear c0 c7 hb0 hsi hW1 hb1 hN1
  go_upto_region 20 with fail
  rw [← HW1.out]
  obtain ⟨i1, ki, kz0, kz1, kz2⟩ := info_parts string_row
  have HKI := Lib.hid ki
  have HZ0 := Lib.hid kz0
  have HZ1 := Lib.hid kz1
  have HZ2 := Lib.hid kz2
  clear ki kz0 kz1 kz2
  go_upto_region 21 with fail
  clear c8
  go_loopg [3, 45] (l.length) (fun g v i wr => ∃ k : Nat, g = l.length - k ∧ k ≤ l.length ∧ i = .int .i64 k ∧ Aside (TxL W 2 ([[103, 114, 111, 117, 112], Lib.itoa n.gp]) l k v wr))
  case atStart => exact ⟨0, by omega, Nat.zero_le _, rfl, ⟨HB1.out, by simpa using HO1.out⟩⟩
  case round =>
    obtain ⟨k, rfl, hk, rfl, hal⟩ := hrel
    have hI := hal.out
    have hbr := hI.bel
    have hnz : w.heap.size < W.heap.size := by have := HNZ.out; omega
    have hwz := hbr.size
    by_cases hlt : k < l.length
    · obtain ⟨kg, kcap, cur, kv, hka, hgw, hcur, hin, hcl⟩ := HKD.out k hlt
      obtain ⟨ta, tm, tc, rfl⟩ := hin.shape
      simp only [Value.slice.injEq] at hka
      obtain ⟨rfl, _, rfl⟩ := hka
      have hlti : (k : Int) < (l.length : Int) := by omega
      have hk0 : (0 : Int) ≤ (k : Int) := by omega
      have hX : wr.heap[kg]? = some (.cells cur 39 (0, 0)) := (hbr.block kg (by omega)).trans ((HBW.out.block kg hgw).trans hcur)
      have hgk := lt_blkB hX
      obtain ⟨nd, hnd⟩ : ∃ nd, nd = l[k] := ⟨_, rfl⟩
      rw [← hnd] at hin hcl
      have hbn : w.heap.size < wr.heap.size := by omega
      obtain ⟨W5, hW5⟩ : ∃ W5, W5 = wr.alloc (.cells zero9 39) := ⟨_, rfl⟩
      have hT5 : W5.heap[wr.heap.size]? = some (.cells zero9 39 (0, 0)) := by rw [hW5]; exact alloc_last _ _
      obtain ⟨W6, hW6⟩ : ∃ W6, W6 = W5.setRow wr.heap.size (nd.cells (.slice ta tm tc)).toArray := ⟨_, rfl⟩
      have hb6 : Below wr.heap.size wr W6 := by rw [hW6, hW5]; exact below_setRow ((Below.refl _ _).alloc (Nat.le_refl _) _) (Nat.le_refl _) _
      have HT6 : Hid (W6.heap[wr.heap.size]? = some (.cells (nd.cells (.slice ta tm tc)).toArray 39 (0, 0))) := Lib.hid (by rw [hW6]; exact setRow_selfR hT5 _)
      have hbw6 : Below w.heap.size w W6 := HBW.out.trans ((hbr.mono (by omega)).trans (hb6.mono (by omega)))
      have HRE := Lib.hid (HIH.out k hlt ta tm tc W6 (by rw [← hnd]; exact hin) hbw6)
      rw [← hnd] at HRE
      have HB6 : Hid (Below W.heap.size W W6) := Lib.hid (hbr.trans (hb6.mono hwz))
      have hz6 : wr.heap.size < W6.heap.size := lt_blkB HT6.out
      obtain ⟨va, vc, hv⟩ := own_shapeT hI.own
      subst hv
      have HO6 : Hid (W6.ownsRow W.heap.size 9 1 (.slice va (2 + k) vc) (2 + k) ((([[103, 114, 111, 117, 112], Lib.itoa n.gp]) ++ (l.take k).map Nd.txt).map strV)) := Lib.hid (own_same hI.own fun b hb cs hc => hb6.block b (lt_blkB hc))
      have HX := Lib.hid hX
      have HCL := Lib.hid hcl
      have HT5 := Lib.hid hT5
      have HW5 := Lib.hid hW5
      have HW6 := Lib.hid hW6
      have HTK : Hid ((l.take (k + 1)).map Nd.txt = (l.take k).map Nd.txt ++ [nd.txt]) := Lib.hid (by rw [hnd, List.take_succ_eq_append_getElem hlt, List.map_append]; rfl)
      obtain ⟨xs, hxs⟩ : ∃ xs, xs = (([[103, 114, 111, 117, 112], Lib.itoa n.gp]) ++ (l.take k).map Nd.txt).map strV := ⟨_, rfl⟩
      rw [← hxs] at HO6
      have HXS := Lib.hid hxs
      clear hal hI hbr hX hcl hcur hin hnd hxs hW5 hT5 hW6 hb6 hbw6 hgw
      unfold zero9 at HW5
      go_upto_region 23 with (first | (refine wpList_load_part rfl 39 _ rfl kg (k * 9) rfl _ cur (nd.cells (.slice ta tm tc)) (0, 0) _ HX.out HCL.out Tryz.underlying39 rfl re_size ?_) | (rw [← HW5.out]; refine wpList_store_re rfl _ _ rfl rfl wr.heap.size nd ta tm tc rfl rfl _ HT5.out rfl ?_; rw [← HW6.out]) | fail)
      go_wp2_with (first | (refine wpList_load_row rfl 39 _ rfl wr.heap.size rfl _ _ (0, 0) _ HT6.out Tryz.underlying39 rfl re_size ?_) | fail)
      refine HRE.out.mono ?_
      rintro x w7 ⟨rfl, hb7⟩
      obtain ⟨s, hs⟩ : ∃ s, s = (⟨nd.txt.toArray⟩ : ByteArray) := ⟨_, rfl⟩
      rw [← hs]
      obtain ⟨W8, hW8⟩ : ∃ W8, W8 = w7.alloc (.cells #[.string s] 9) := ⟨_, rfl⟩
      have hb8 : Below W6.heap.size W6 W8 := by rw [hW8]; exact hb7.alloc hb7.size _
      have hN8 : W8.heap[w7.heap.size]? = some (.cells #[.string s] 9 (0, 0)) := by rw [hW8]; exact alloc_last _ _
      have hz8 := lt_blkB hN8
      have hz7 := hb7.size
      have hO8 : W8.ownsRow W.heap.size 9 1 (.slice va (2 + k) vc) (2 + k) xs := own_same HO6.out fun b hb cs hc => hb8.block b (lt_blkB hc)
      have HB8 : Hid (Below W.heap.size W W8) := Lib.hid (HB6.out.trans (hb8.mono (by omega)))
      have HN8 := Lib.hid hN8
      have HO8 := Lib.hid hO8
      have HSV : Hid ([Value.string s] = [nd.txt].map strV) := Lib.hid (by rw [hs]; rfl)
      clear hb7 hb8 hN8 hO8 hs HO6 HB6 HRE HT6 HX HCL HT5
      subst hW8
      go_wp2_with (first | (at_builtin; refine wpList_append_own_at _ rfl (.tmp 49) (.tmp 52) 83 rfl W.heap.size 9 i1 (.string ⟨#[]⟩) 1 16 Tryz.underlying83 HKI.out HZ0.out HZ1.out HZ2.out rfl (by decide) (.slice va (2 + k) vc) (2 + k) xs rfl HO8.out ⟨w7.heap.size, 0, none⟩ 1 1 [.string s] rfl rfl ?hnews ?hone ?h63 ?hby ?hba ?_))
      case hnews => (intro j u hj; rw [addz]; rw [Lib.cell_of_heap HN8.out]; simpa using hj)
      case hone => (intro u hu; rw [List.mem_singleton.1 hu]; rfl)
      case h63 => (unfold maxLen; omega)
      case hby => omega
      case hba => omega
      intro v' w' ho' hg' _ _
      have hob := own_row HO8.out
      have hbf : Below W.heap.size W w' := by
        have h8 := HB8.out
        exact ⟨hg'.os.trans h8.os, hg'.tape.trans h8.tape, hg'.output.trans h8.output, Nat.le_trans h8.size hg'.size, fun i hi => (hg'.block i (by have := h8.size; omega) (fun e => by have := (hob i e.symm).1; omega)).trans (h8.block i hi)⟩
      have HBF := Lib.hid hbf
      have HOF := Lib.hid (show w'.ownsRow W.heap.size 9 1 v' (2 + (k + 1)) ((([[103, 114, 111, 117, 112], Lib.itoa n.gp]) ++ (l.take (k + 1)).map Nd.txt).map strV) from by
        rw [HTK.out, ← List.append_assoc, List.map_append, ← HSV.out, ← HXS.out, ← Nat.add_assoc]
        exact ho')
      clear hob hbf ho' hg' HO8 HB8 HN8
      go_wp2_with fail
      go_roundg (l.length - (k + 1))
      case measure => omega
      case rel => exact ⟨k + 1, rfl, by omega, by simp, ⟨HBF.out, HOF.out⟩⟩
    · obtain rfl : k = l.length := by omega
      have hnl : ¬ (l.length : Int) < (l.length : Int) := by omega
      obtain ⟨va, vc, hv⟩ := own_shapeT hI.own
      subst hv
      have hwd : (([[103, 114, 111, 117, 112], Lib.itoa n.gp]) ++ (l.take l.length).map Nd.txt) = ([[103, 114, 111, 117, 112], Lib.itoa n.gp]) ++ l.map Nd.txt := by rw [List.take_length]
      have hown := hI.own
      rw [hwd] at hown
      have hwl : (([[103, 114, 111, 117, 112], Lib.itoa n.gp]) ++ l.map Nd.txt).length = 2 + l.length := by simp only [List.length_append, List.length_map, List.length_cons, List.length_nil] <;> omega
      have hown2 : wr.ownsRow W.heap.size 9 1 (.slice va (2 + l.length) vc) (([[103, 114, 111, 117, 112], Lib.itoa n.gp]) ++ l.map Nd.txt).length ((([[103, 114, 111, 117, 112], Lib.itoa n.gp]) ++ l.map Nd.txt).map strV) := by rw [hwl]; exact hown
      have HJ := Lib.hid (join_own ⟨#[32]⟩ wr hown2 (by rw [hwl]; omega) HLN.out)
      have hjs : (⟨(Lib.join (([[103, 114, 111, 117, 112], Lib.itoa n.gp]) ++ l.map Nd.txt) [32]).toArray⟩ : ByteArray).size ≤ 140737488355328 := HLN.out
      have HTS : Hid ((⟨#[40]⟩ : ByteArray) ++ ⟨(Lib.join (([[103, 114, 111, 117, 112], Lib.itoa n.gp]) ++ l.map Nd.txt) [32]).toArray⟩ ++ ⟨#[41]⟩ = ⟨n.txt.toArray⟩) := Lib.hid (by rw [HTX.out]; apply ByteArray.ext; simp [parT])
      have HBR := Lib.hid hbr
      change Hid (Calls _ _ _ _ fun e w' => e = .returned (.string ⟨(Lib.join (([[103, 114, 111, 117, 112], Lib.itoa n.gp]) ++ l.map Nd.txt) [32]).toArray⟩) ∧ _) at HJ
      generalize (⟨(Lib.join (([[103, 114, 111, 117, 112], Lib.itoa n.gp]) ++ l.map Nd.txt) [32]).toArray⟩ : ByteArray) = J at *
      clear hal hI hbr hown hown2 hwd hwl hlt hk
      go_wp2_with fail
      refine HJ.out.mono ?_
      rintro x w9 ⟨rfl, hb9⟩
      have HBF : Hid (Below w.heap.size w w9) := Lib.hid (HBW.out.trans ((HBR.out.mono (by omega)).trans (hb9.mono (by omega))))
      clear hb9
      go_wp2
      go_ret
      exact ⟨congrArg (fun b => Ending.returned (Value.string b)) HTS.out, HBF.out⟩
/-- The state within the region of a rep. -/
structure RpT (W : World) (cs : Array Value) (L6 L7 : Bool) (u6 u7 : Value) (X : World) : Prop where
  bel : Below W.heap.size W X
  lit : L6 = true → ∃ b, u6 = .slice (some ⟨b, 0, none⟩) 3 3 ∧ W.heap.size ≤ b ∧ X.heap[b]? = some (.cells cs 9 (0, 0))
  mv : L7 = true → L6 = true ∧ u7 = u6
set_option maxRecDepth 100000 in
set_option maxHeartbeats 8000000 in
theorem text_rep (n : Nd) (l : List Nd) (a : Option Addr) (m c : Nat) (S : Nat → Prop) (w : World) (hk : n.kd = 6) (hl : n.kids = fo l) (hin : n.In w S (.slice a m c)) (hP : TPr w) (hf1 : -9223372036854775808 ≤ n.mn ∧ n.mn ≤ 9223372036854775807) (hf2 : -9223372036854775808 ≤ n.mx ∧ n.mx ≤ 9223372036854775807) (_hf3 : -9223372036854775808 ≤ n.gp ∧ n.gp ≤ 9223372036854775807) (hnl : l.length ≤ 1000000) (hjl : (Lib.join (([[114, 101, 112], Lib.itoa n.mn, maxT n.mx]) ++ l.map Nd.txt) [32]).length ≤ 140737488355328)
    (ih : ∀ k (h : k < l.length) a' m' c' W, (l[k]).In w S (.slice a' m' c') → Below w.heap.size w W → Calls Tryz.prog 20 #[(l[k]).v (.slice a' m' c')] W (TxP (l[k]) W)) :
    Calls Tryz.prog 20 #[n.v (.slice a m c)] w (TxP n w) := by
  obtain ⟨W, hW⟩ : ∃ W, W = w.alloc (.cells (n.cells (.slice a m c)).toArray 39) := ⟨_, rfl⟩
  have hbx : W.heap[w.heap.size]? = some (.cells (n.cells (.slice a m c)).toArray 39 (0, 0)) := by rw [hW]; exact alloc_last w _
  have hb : Below w.heap.size w W := by rw [hW]; exact (Below.refl _ _).alloc (Nat.le_refl _) _
  have HNZ : Hid (W.heap.size = w.heap.size + 1) := Lib.hid (by rw [hW]; simp)
  have c0 : W.cell? ⟨w.heap.size, 0, none⟩ = some (.int .i64 6) := (Lib.cell_of_heap hbx 0).trans (by rw [← hk]; rfl)
  have HTX : Hid (n.txt = parT (([[114, 101, 112], Lib.itoa n.mn, maxT n.mx]) ++ l.map Nd.txt)) := Lib.hid (by unfold Nd.txt nodeT headT; rw [hk, hl, txt_fo]; rfl)
  have hlen : m = l.length := by
    obtain ⟨ks, h1, _⟩ := hin
    obtain ⟨_, cap, e⟩ := h1.shape
    simp only [Value.slice.injEq] at e
    rw [e.2.1, hl, fo_len]
  subst hlen
  have HKD : Hid (∀ k (h : k < l.length), ∃ kg kcap cur kv, Value.slice a l.length c = .slice (some ⟨kg, 0, none⟩) l.length kcap ∧ kg < w.heap.size ∧ w.heap[kg]? = some (.cells cur 39 (0, 0)) ∧ (l[k]).In w S kv ∧ (∀ i u, ((l[k]).cells kv)[i]? = some u → cur[k * 9 + i]? = some u)) := Lib.hid (fun k h => by
    obtain ⟨ks, ⟨hown, _⟩, hlay⟩ := hin
    rw [hl] at hlay
    obtain ⟨kv, hki, hkc⟩ := lay_at hlay (List.getElem?_eq_getElem h)
    obtain ⟨_, ⟨hn0, hz⟩ | ⟨g, cap, cur, hv, _, hg, hnc, _, hcs, htk⟩⟩ := hown
    · rw [hl, fo_len] at hz
      omega
    · refine ⟨g, cap, cur, kv, ?_, lt_blkB hg, hg, hki, fun i u hu => ?_⟩
      · simp only [Value.slice.injEq] at hv ⊢
        exact ⟨hv.1, trivial, hv.2.2⟩
      · have hi9 : i < 9 := (List.getElem?_eq_some_iff.1 hu).1
        have h1 := (hkc i hi9).trans hu
        rw [← htk, List.getElem?_take] at h1
        split at h1
        · simpa using h1
        · cases h1)
  have HIH := Lib.hid ih
  have HLN : Hid ((Lib.join (([[114, 101, 112], Lib.itoa n.mn, maxT n.mx]) ++ l.map Nd.txt) (ByteArray.data ⟨#[32]⟩).toList).length ≤ 140737488355328) := Lib.hid hjl
  have HBX := Lib.hid hbx
  have HBW := Lib.hid hb
  have HWE := Lib.hid hW
  have HNV : Hid (n.v (.slice a l.length c) = .agg (n.cells (.slice a l.length c)).toArray) := Lib.hid rfl
  rw [HNV.out]
  have hsi : Hid (∀ X, Below W.heap.size W X → Calls Tryz.prog 33 #[.int .i64 n.mn] X fun e w' => e = .returned (.string ⟨(Lib.itoa n.mn).toArray⟩) ∧ Below X.heap.size X w') := Lib.hid (fun X hX => itoa_any n.mn X hf1.1 hf1.2 ((hP.below hb).below hX))
  have hsm : Hid (∀ X, Below W.heap.size W X → Calls Tryz.prog 34 #[.int .i64 n.mx] X fun e w' => e = .returned (.string ⟨(maxT n.mx).toArray⟩) ∧ Below X.heap.size X w') := Lib.hid (fun X hX => bound_any n.mx X hf2.1 hf2.2 ((hP.below hb).below hX))
  have HC5 : Hid ((n.cells (.slice a l.length c)).toArray[5]? = some (.int .i64 n.mn)) := Lib.hid rfl
  have HC6 : Hid ((n.cells (.slice a l.length c)).toArray[6]? = some (.int .i64 n.mx)) := Lib.hid rfl
  have HC8 : Hid ((n.cells (.slice a l.length c)).toArray[8]? = some (.slice a l.length c)) := Lib.hid rfl
  clear hb hW hk hl hin hP hf1 hf2 _hf3 hjl ih
  unfold TxP
  generalize (n.cells (.slice a l.length c)).toArray = cs at *
  clear hbx
  obtain ⟨si, hsi'⟩ : ∃ si, si = (⟨(Lib.itoa n.mn).toArray⟩ : ByteArray) := ⟨_, rfl⟩
  obtain ⟨sm, hsm'⟩ : ∃ sm, sm = (⟨(maxT n.mx).toArray⟩ : ByteArray) := ⟨_, rfl⟩
  rw [← hsi'] at hsi
  rw [← hsm'] at hsm
  have HSI := Lib.hid hsi'
  have HSM := Lib.hid hsm'
  clear hsi' hsm'
  go_enter Tryz.func20, Tryz.ntmps20
  go_upto_region 1 with fail
  rw [← HWE.out]
  go_upto_region 17 with fail
  clear c0
  refine Reg.wp_region_sto (fun L u X => RpT W #[.string ⟨#[114, 101, 112]⟩, .string si, .string sm] (L 6) (L 7) (u 6) (u 7) X) (fun j => ([some (.pointer (some ⟨w.heap.size, 5, none⟩)), some (.int .i64 n.mn), some (.string si), some (.pointer (some ⟨w.heap.size, 6, none⟩)), some (.int .i64 n.mx), some (.string sm), none, none] : List (Option Value)).getD j none) (by kernel_rfl) (by kernel_rfl) (by kernel_rfl) (by kernel_rfl) ?rs0 ?rsE ?rsZ
  case rs0 => exact ⟨(Below.refl _ _).drew, fun h => (by cases h), fun h => (by cases h)⟩
  case rsE =>
    refine Reg.EachG.plain rfl (fun L u T X hL hz hS hk K hK => ?_) ?_
    · skip
      have g1 : T[1]? = some (.pointer (some ⟨w.heap.size, 0, none⟩)) := hk.old 1 (by kernel_rfl) rfl
      have hK := hK _ X ⟨hS.bel, hS.lit, hS.mv⟩ (fun _ hx => Option.some.inj hx)
      clear hk hz hL hS
      go_simp
      exact hK
    refine Reg.EachG.plain rfl (fun L u T X hL hz hS hk K hK => ?_) ?_
    · skip
      have g29 : T[29]? = some (.pointer (some ⟨w.heap.size, 5, none⟩)) := hk.val 0 29 (by kernel_rfl) (by kernel_rfl) rfl
      have cb := (Lib.cell_of_heap (blk_below HBX.out hS.bel) 5).trans HC5.out
      have hK := hK _ X ⟨hS.bel, hS.lit, hS.mv⟩ (fun _ hx => Option.some.inj hx)
      clear hk hz hL hS
      go_simp
      exact hK
    refine Reg.EachG.plain rfl (fun L u T X hL hz hS hk K hK => ?_) ?_
    · skip
      have g30 : T[30]? = some (.int .i64 n.mn) := hk.val 1 30 (by kernel_rfl) (by kernel_rfl) rfl
      have d6 : L 6 = false := hz 6 (by kernel_rfl)
      clear hk hz
      go_simp
      refine (hsi.out X hS.bel).mono ?_
      rintro x w1 ⟨rfl, hb1⟩
      exact hK _ w1 ⟨below_thn hS.bel (Nat.le_refl _) hb1, fun h => (by rw [Reg.upd_ne _ _ (by decide), d6] at h; cases h), hS.mv⟩ (fun _ hx => Option.some.inj hx)
    refine Reg.EachG.plain rfl (fun L u T X hL hz hS hk K hK => ?_) ?_
    · skip
      have g1 : T[1]? = some (.pointer (some ⟨w.heap.size, 0, none⟩)) := hk.old 1 (by kernel_rfl) rfl
      have hK := hK _ X ⟨hS.bel, hS.lit, hS.mv⟩ (fun _ hx => Option.some.inj hx)
      clear hk hz hL hS
      go_simp
      exact hK
    refine Reg.EachG.plain rfl (fun L u T X hL hz hS hk K hK => ?_) ?_
    · skip
      have g32 : T[32]? = some (.pointer (some ⟨w.heap.size, 6, none⟩)) := hk.val 3 32 (by kernel_rfl) (by kernel_rfl) rfl
      have cb := (Lib.cell_of_heap (blk_below HBX.out hS.bel) 6).trans HC6.out
      have hK := hK _ X ⟨hS.bel, hS.lit, hS.mv⟩ (fun _ hx => Option.some.inj hx)
      clear hk hz hL hS
      go_simp
      exact hK
    refine Reg.EachG.plain rfl (fun L u T X hL hz hS hk K hK => ?_) ?_
    · skip
      have g33 : T[33]? = some (.int .i64 n.mx) := hk.val 4 33 (by kernel_rfl) (by kernel_rfl) rfl
      have d6 : L 6 = false := hz 6 (by kernel_rfl)
      clear hk hz
      go_simp
      refine (hsm.out X hS.bel).mono ?_
      rintro x w1 ⟨rfl, hb1⟩
      exact hK _ w1 ⟨below_thn hS.bel (Nat.le_refl _) hb1, fun h => (by rw [Reg.upd_ne _ _ (by decide), d6] at h; cases h), hS.mv⟩ (fun _ hx => Option.some.inj hx)
    refine Reg.EachG.plain rfl (fun L u T X hL hz hS hk K hK => ?_) ?_
    · skip
      have g31 : T[31]? = some (.string si) := hk.val 2 31 (by kernel_rfl) (by kernel_rfl) rfl
      have g34 : T[34]? = some (.string sm) := hk.val 5 34 (by kernel_rfl) (by kernel_rfl) rfl
      have d7 : L 7 = false := hz 7 (by kernel_rfl)
      have hK := hK (.slice (some ⟨X.heap.size, 0, none⟩) 3 3) (X.alloc (.cells #[.string ⟨#[114, 101, 112]⟩, .string si, .string sm] 9)) ⟨hS.bel.alloc hS.bel.size _, fun _ => ⟨X.heap.size, by rw [Reg.upd_same], hS.bel.size, alloc_last X _⟩, fun h => (by rw [Reg.upd_ne _ _ (by decide), d7] at h; cases h)⟩ (fun _ hx => by cases hx)
      clear hk hz hL hS d7
      go_simp
      exact hK
    refine Reg.EachG.plain rfl (fun L u T X hL hz hS hk K hK => ?_) ?_
    · skip
      obtain ⟨g35, l35⟩ := hk.any 6 35 (by kernel_rfl) (by kernel_rfl)
      have hK := hK (u 6) X ⟨hS.bel, fun _ => (by rw [Reg.upd_ne _ _ (by decide)]; exact hS.lit l35), fun _ => ⟨by rw [Reg.upd_ne _ _ (by decide)]; exact l35, by rw [Reg.upd_same, Reg.upd_ne _ _ (by decide)]⟩⟩ (fun _ hx => by cases hx)
      clear hk hz hL hS
      go_simp
      exact hK
    exact Reg.EachG.nil
  case rsZ =>
    intro L u w9 hL hS hI
    have e0 : u 0 = .pointer (some ⟨w.heap.size, 5, none⟩) := hI 0 (by decide) _ rfl
    have e1 : u 1 = .int .i64 n.mn := hI 1 (by decide) _ rfl
    have e2 : u 2 = .string si := hI 2 (by decide) _ rfl
    have e3 : u 3 = .pointer (some ⟨w.heap.size, 6, none⟩) := hI 3 (by decide) _ rfl
    have e4 : u 4 = .int .i64 n.mx := hI 4 (by decide) _ rfl
    have e5 : u 5 = .string sm := hI 5 (by decide) _ rfl
    clear hI
    simp only [Reg.putAll, Act.put, List.setIfInBounds_toArray, List.set_cons_succ, List.set_cons_zero, Nat.zero_add, Nat.reduceAdd, e0, e1, e2, e3, e4, e5]
    clear e0 e1 e2 e3 e4 e5
    have d6 := hL 6 (by decide)
    obtain ⟨b, e6, hbW, hN1⟩ := hS.lit d6
    have e7 := (hS.mv (hL 7 (by decide))).2
    rw [e6] at e7
    rw [e6, e7]
    have HO1 : Hid (w9.ownsRow W.heap.size 9 1 (.slice (some ⟨b, 0, none⟩) 3 3) 3 (([[114, 101, 112], Lib.itoa n.mn, maxT n.mx]).map strV)) := Lib.hid (by have := str_row (vs := [.string ⟨#[114, 101, 112]⟩, .string si, .string sm]) hN1 W.heap.size hbW (by simp); rw [HSI.out, HSM.out] at this; exact this)
    have HB1 := Lib.hid hS.bel
    have c8 : w9.cell? ⟨w.heap.size, 8, none⟩ = some (.slice a l.length c) := (Lib.cell_of_heap (blk_below HBX.out hS.bel) 8).trans HC8.out
    clear hS d6 e6 e7 hL hN1 u L
    go_upto_region 20 with fail
    obtain ⟨i1, ki, kz0, kz1, kz2⟩ := info_parts string_row
    have HKI := Lib.hid ki
    have HZ0 := Lib.hid kz0
    have HZ1 := Lib.hid kz1
    have HZ2 := Lib.hid kz2
    clear ki kz0 kz1 kz2
    go_upto_region 21 with fail
    clear c8
    go_loopg [3, 45] (l.length) (fun g v i wr => ∃ k : Nat, g = l.length - k ∧ k ≤ l.length ∧ i = .int .i64 k ∧ Aside (TxL W 3 ([[114, 101, 112], Lib.itoa n.mn, maxT n.mx]) l k v wr))
    case atStart => exact ⟨0, by omega, Nat.zero_le _, rfl, ⟨HB1.out, by simpa using HO1.out⟩⟩
    case round =>
      obtain ⟨k, rfl, hk, rfl, hal⟩ := hrel
      have hI := hal.out
      have hbr := hI.bel
      have hnz : w.heap.size < W.heap.size := by have := HNZ.out; omega
      have hwz := hbr.size
      by_cases hlt : k < l.length
      · obtain ⟨kg, kcap, cur, kv, hka, hgw, hcur, hin, hcl⟩ := HKD.out k hlt
        obtain ⟨ta, tm, tc, rfl⟩ := hin.shape
        simp only [Value.slice.injEq] at hka
        obtain ⟨rfl, _, rfl⟩ := hka
        have hlti : (k : Int) < (l.length : Int) := by omega
        have hk0 : (0 : Int) ≤ (k : Int) := by omega
        have hX : wr.heap[kg]? = some (.cells cur 39 (0, 0)) := (hbr.block kg (by omega)).trans ((HBW.out.block kg hgw).trans hcur)
        have hgk := lt_blkB hX
        obtain ⟨nd, hnd⟩ : ∃ nd, nd = l[k] := ⟨_, rfl⟩
        rw [← hnd] at hin hcl
        have hbn : w.heap.size < wr.heap.size := by omega
        obtain ⟨W5, hW5⟩ : ∃ W5, W5 = wr.alloc (.cells zero9 39) := ⟨_, rfl⟩
        have hT5 : W5.heap[wr.heap.size]? = some (.cells zero9 39 (0, 0)) := by rw [hW5]; exact alloc_last _ _
        obtain ⟨W6, hW6⟩ : ∃ W6, W6 = W5.setRow wr.heap.size (nd.cells (.slice ta tm tc)).toArray := ⟨_, rfl⟩
        have hb6 : Below wr.heap.size wr W6 := by rw [hW6, hW5]; exact below_setRow ((Below.refl _ _).alloc (Nat.le_refl _) _) (Nat.le_refl _) _
        have HT6 : Hid (W6.heap[wr.heap.size]? = some (.cells (nd.cells (.slice ta tm tc)).toArray 39 (0, 0))) := Lib.hid (by rw [hW6]; exact setRow_selfR hT5 _)
        have hbw6 : Below w.heap.size w W6 := HBW.out.trans ((hbr.mono (by omega)).trans (hb6.mono (by omega)))
        have HRE := Lib.hid (HIH.out k hlt ta tm tc W6 (by rw [← hnd]; exact hin) hbw6)
        rw [← hnd] at HRE
        have HB6 : Hid (Below W.heap.size W W6) := Lib.hid (hbr.trans (hb6.mono hwz))
        have hz6 : wr.heap.size < W6.heap.size := lt_blkB HT6.out
        obtain ⟨va, vc, hv⟩ := own_shapeT hI.own
        subst hv
        have HO6 : Hid (W6.ownsRow W.heap.size 9 1 (.slice va (3 + k) vc) (3 + k) ((([[114, 101, 112], Lib.itoa n.mn, maxT n.mx]) ++ (l.take k).map Nd.txt).map strV)) := Lib.hid (own_same hI.own fun b hb cs hc => hb6.block b (lt_blkB hc))
        have HX := Lib.hid hX
        have HCL := Lib.hid hcl
        have HT5 := Lib.hid hT5
        have HW5 := Lib.hid hW5
        have HW6 := Lib.hid hW6
        have HTK : Hid ((l.take (k + 1)).map Nd.txt = (l.take k).map Nd.txt ++ [nd.txt]) := Lib.hid (by rw [hnd, List.take_succ_eq_append_getElem hlt, List.map_append]; rfl)
        obtain ⟨xs, hxs⟩ : ∃ xs, xs = (([[114, 101, 112], Lib.itoa n.mn, maxT n.mx]) ++ (l.take k).map Nd.txt).map strV := ⟨_, rfl⟩
        rw [← hxs] at HO6
        have HXS := Lib.hid hxs
        clear hal hI hbr hX hcl hcur hin hnd hxs hW5 hT5 hW6 hb6 hbw6 hgw
        unfold zero9 at HW5
        go_upto_region 23 with (first | (refine wpList_load_part rfl 39 _ rfl kg (k * 9) rfl _ cur (nd.cells (.slice ta tm tc)) (0, 0) _ HX.out HCL.out Tryz.underlying39 rfl re_size ?_) | (rw [← HW5.out]; refine wpList_store_re rfl _ _ rfl rfl wr.heap.size nd ta tm tc rfl rfl _ HT5.out rfl ?_; rw [← HW6.out]) | fail)
        go_wp2_with (first | (refine wpList_load_row rfl 39 _ rfl wr.heap.size rfl _ _ (0, 0) _ HT6.out Tryz.underlying39 rfl re_size ?_) | fail)
        refine HRE.out.mono ?_
        rintro x w7 ⟨rfl, hb7⟩
        obtain ⟨s, hs⟩ : ∃ s, s = (⟨nd.txt.toArray⟩ : ByteArray) := ⟨_, rfl⟩
        rw [← hs]
        obtain ⟨W8, hW8⟩ : ∃ W8, W8 = w7.alloc (.cells #[.string s] 9) := ⟨_, rfl⟩
        have hb8 : Below W6.heap.size W6 W8 := by rw [hW8]; exact hb7.alloc hb7.size _
        have hN8 : W8.heap[w7.heap.size]? = some (.cells #[.string s] 9 (0, 0)) := by rw [hW8]; exact alloc_last _ _
        have hz8 := lt_blkB hN8
        have hz7 := hb7.size
        have hO8 : W8.ownsRow W.heap.size 9 1 (.slice va (3 + k) vc) (3 + k) xs := own_same HO6.out fun b hb cs hc => hb8.block b (lt_blkB hc)
        have HB8 : Hid (Below W.heap.size W W8) := Lib.hid (HB6.out.trans (hb8.mono (by omega)))
        have HN8 := Lib.hid hN8
        have HO8 := Lib.hid hO8
        have HSV : Hid ([Value.string s] = [nd.txt].map strV) := Lib.hid (by rw [hs]; rfl)
        clear hb7 hb8 hN8 hO8 hs HO6 HB6 HRE HT6 HX HCL HT5
        subst hW8
        go_wp2_with (first | (at_builtin; refine wpList_append_own_at _ rfl (.tmp 49) (.tmp 52) 83 rfl W.heap.size 9 i1 (.string ⟨#[]⟩) 1 16 Tryz.underlying83 HKI.out HZ0.out HZ1.out HZ2.out rfl (by decide) (.slice va (3 + k) vc) (3 + k) xs rfl HO8.out ⟨w7.heap.size, 0, none⟩ 1 1 [.string s] rfl rfl ?hnews ?hone ?h63 ?hby ?hba ?_))
        case hnews => (intro j u hj; rw [addz]; rw [Lib.cell_of_heap HN8.out]; simpa using hj)
        case hone => (intro u hu; rw [List.mem_singleton.1 hu]; rfl)
        case h63 => (unfold maxLen; omega)
        case hby => omega
        case hba => omega
        intro v' w' ho' hg' _ _
        have hob := own_row HO8.out
        have hbf : Below W.heap.size W w' := by
          have h8 := HB8.out
          exact ⟨hg'.os.trans h8.os, hg'.tape.trans h8.tape, hg'.output.trans h8.output, Nat.le_trans h8.size hg'.size, fun i hi => (hg'.block i (by have := h8.size; omega) (fun e => by have := (hob i e.symm).1; omega)).trans (h8.block i hi)⟩
        have HBF := Lib.hid hbf
        have HOF := Lib.hid (show w'.ownsRow W.heap.size 9 1 v' (3 + (k + 1)) ((([[114, 101, 112], Lib.itoa n.mn, maxT n.mx]) ++ (l.take (k + 1)).map Nd.txt).map strV) from by
          rw [HTK.out, ← List.append_assoc, List.map_append, ← HSV.out, ← HXS.out, ← Nat.add_assoc]
          exact ho')
        clear hob hbf ho' hg' HO8 HB8 HN8
        go_wp2_with fail
        go_roundg (l.length - (k + 1))
        case measure => omega
        case rel => exact ⟨k + 1, rfl, by omega, by simp, ⟨HBF.out, HOF.out⟩⟩
      · obtain rfl : k = l.length := by omega
        have hnl : ¬ (l.length : Int) < (l.length : Int) := by omega
        obtain ⟨va, vc, hv⟩ := own_shapeT hI.own
        subst hv
        have hwd : (([[114, 101, 112], Lib.itoa n.mn, maxT n.mx]) ++ (l.take l.length).map Nd.txt) = ([[114, 101, 112], Lib.itoa n.mn, maxT n.mx]) ++ l.map Nd.txt := by rw [List.take_length]
        have hown := hI.own
        rw [hwd] at hown
        have hwl : (([[114, 101, 112], Lib.itoa n.mn, maxT n.mx]) ++ l.map Nd.txt).length = 3 + l.length := by simp only [List.length_append, List.length_map, List.length_cons, List.length_nil] <;> omega
        have hown2 : wr.ownsRow W.heap.size 9 1 (.slice va (3 + l.length) vc) (([[114, 101, 112], Lib.itoa n.mn, maxT n.mx]) ++ l.map Nd.txt).length ((([[114, 101, 112], Lib.itoa n.mn, maxT n.mx]) ++ l.map Nd.txt).map strV) := by rw [hwl]; exact hown
        have HJ := Lib.hid (join_own ⟨#[32]⟩ wr hown2 (by rw [hwl]; omega) HLN.out)
        have hjs : (⟨(Lib.join (([[114, 101, 112], Lib.itoa n.mn, maxT n.mx]) ++ l.map Nd.txt) [32]).toArray⟩ : ByteArray).size ≤ 140737488355328 := HLN.out
        have HTS : Hid ((⟨#[40]⟩ : ByteArray) ++ ⟨(Lib.join (([[114, 101, 112], Lib.itoa n.mn, maxT n.mx]) ++ l.map Nd.txt) [32]).toArray⟩ ++ ⟨#[41]⟩ = ⟨n.txt.toArray⟩) := Lib.hid (by rw [HTX.out]; apply ByteArray.ext; simp [parT])
        have HBR := Lib.hid hbr
        change Hid (Calls _ _ _ _ fun e w' => e = .returned (.string ⟨(Lib.join (([[114, 101, 112], Lib.itoa n.mn, maxT n.mx]) ++ l.map Nd.txt) [32]).toArray⟩) ∧ _) at HJ
        generalize (⟨(Lib.join (([[114, 101, 112], Lib.itoa n.mn, maxT n.mx]) ++ l.map Nd.txt) [32]).toArray⟩ : ByteArray) = J at *
        clear hal hI hbr hown hown2 hwd hwl hlt hk
        go_wp2_with fail
        refine HJ.out.mono ?_
        rintro x wz ⟨rfl, hb9⟩
        have HBF : Hid (Below w.heap.size w wz) := Lib.hid (HBW.out.trans ((HBR.out.mono (by omega)).trans (hb9.mono (by omega))))
        clear hb9
        go_wp2
        go_ret
        exact ⟨congrArg (fun b => Ending.returned (Value.string b)) HTS.out, HBF.out⟩
end Go.Proofs.YthmgcebonplcgaaGreatDoor
/- The text of any tree; what an expression that was read tells. -/
namespace Go.Proofs.YthmgcebonplcgaaGreatDoor
open Go.RowKit

def Nd.Fit (n : Nd) : Prop := ((-9223372036854775808 ≤ n.mn ∧ n.mn ≤ 9223372036854775807) ∧ (-9223372036854775808 ≤ n.mx ∧ n.mx ≤ 9223372036854775807) ∧ (-9223372036854775808 ≤ n.gp ∧ n.gp ≤ 9223372036854775807)) ∧ n.kids.Fit
theorem fit_at : ∀ (l : List Nd), (fo l).Fit → ∀ k (h : k < l.length), (l[k]).Fit
  | [], _, k, h => by simp at h
  | _ :: r, hf, 0, _ => ⟨hf.1, hf.2.1⟩
  | _ :: r, hf, k + 1, h => fit_at r hf.2.2 k (by simpa using h)
theorem sz_at : ∀ (l : List Nd) k (h : k < l.length), (l[k]).sz ≤ szL l
  | [], k, h => by simp at h
  | n :: r, 0, _ => by
    show n.sz ≤ 1 + n.kids.sz + (fo r).sz
    unfold Nd.sz
    omega
  | n :: r, k + 1, h => by
    have hr : k < r.length := by simpa using h
    have := sz_at r k hr
    show (r[k]'hr).sz ≤ 1 + n.kids.sz + (fo r).sz
    unfold szL at this
    omega
theorem join_fits {kd mn mx gp : Int} {h : List (List UInt8)} (l : List Nd) (he : headT kd mn mx gp = some h) (h1 : -9223372036854775808 ≤ mn ∧ mn ≤ 9223372036854775807) (h2 : -9223372036854775808 ≤ mx ∧ mx ≤ 9223372036854775807) (h3 : -9223372036854775808 ≤ gp ∧ gp ≤ 9223372036854775807) (hf : (fo l).Fit) (hs : szL l ≤ 1000000) : (Lib.join (h ++ l.map Nd.txt) [32]).length ≤ 140737488355328 := by
  have a := headT_len he h1 h2 h3
  have b := txt_lens (fo l) hf
  rw [txt_fo, fo_len] at b
  have c := join_len (h ++ l.map Nd.txt)
  rw [lens_app, List.length_append, List.length_map] at c
  unfold szL at hs
  have := b.1
  omega
/-- The text of any tree that lies in memory. -/
theorem rtext_any (S : Nat → Prop) : ∀ (N : Nat) (n : Nd) (kv : Value) (w : World), n.sz ≤ N → n.sz ≤ 1000000 → n.Fit → n.In w S kv → TZ w → DB w → TPr w → Calls Tryz.prog 20 #[n.v kv] w (TxP n w) := by
  intro N
  induction N with
  | zero => intro n kv w h; unfold Nd.sz at h; omega
  | succ N IH =>
    intro n kv w h hM hF hin hT hD hP
    obtain ⟨a, m, c, rfl⟩ := hin.shape
    obtain ⟨⟨h1, h2, h3⟩, hfk⟩ := hF
    obtain ⟨l, hl⟩ : ∃ l, n.kids = fo l := ⟨n.kids.toL, (fo_toL _).symm⟩
    rw [hl] at hfk
    have hs : 1 + szL l ≤ N + 1 := by unfold Nd.sz at h; rw [hl] at h; exact h
    have hs2 : 1 + szL l ≤ 1000000 := by unfold Nd.sz at hM; rw [hl] at hM; exact hM
    have hll : l.length ≤ szL l := by have := fo_sz_len (fo l); rw [fo_len] at this; exact this
    have ih : ∀ k (h : k < l.length) a' m' c' W, (l[k]).In w S (.slice a' m' c') → Below w.heap.size w W → Calls Tryz.prog 20 #[(l[k]).v (.slice a' m' c')] W (TxP (l[k]) W) := fun k hk a' m' c' W hi hb =>
      IH _ _ W (by have := sz_at l k hk; omega) (by have := sz_at l k hk; omega) (fit_at l hfk k hk) (hi.below hb) (hT.below hb) (hD.below hb) (hP.below hb)
    by_cases k1 : n.kd = 1
    · exact text_set n a m c w k1 hT hD
    by_cases k2 : n.kd = 2
    · exact text_beg n a m c w k2
    by_cases k3 : n.kd = 3
    · exact text_fin n a m c w k3
    by_cases k4 : n.kd = 4
    · exact text_cat n l a m c S w k4 hl hin hP h1 h2 h3 (by omega) (join_fits (kd := 4) l rfl h1 h2 h3 hfk (by omega)) ih
    by_cases k5 : n.kd = 5
    · exact text_alt n l a m c S w k5 hl hin hP h1 h2 h3 (by omega) (join_fits (kd := 5) l rfl h1 h2 h3 hfk (by omega)) ih
    by_cases k6 : n.kd = 6
    · exact text_rep n l a m c S w k6 hl hin hP h1 h2 h3 (by omega) (join_fits (kd := 6) l rfl h1 h2 h3 hfk (by omega)) ih
    by_cases k7 : n.kd = 7
    · exact text_grp n l a m c S w k7 hl hin hP h1 h2 h3 (by omega) (join_fits (kd := 7) l rfl h1 h2 h3 hfk (by omega)) ih
    · exact rtext_none n a m c w (by omega)
/-- An expression that was read lies in memory. -/
def ReAt (w : World) (p : Nat) (t : Nd) (kv : Value) (g : Nat) (ext : Bool) : Prop := w.heap[p]? = some (.cells (reA t kv g ext) 57 (0, 0))
set_option maxHeartbeats 4000000 in
theorem Text_at (S : Nat → Prop) (w : World) (p : Nat) (t : Nd) (kv : Value) (g : Nat) (ext : Bool) (h : ReAt w p t kv g ext) (hM : t.sz ≤ 1000000) (hF : t.Fit) (hin : t.In w S kv) (hT : TZ w) (hD : DB w) (hP : TPr w) :
    Calls Tryz.prog 11 #[.pointer (some ⟨p, 0, none⟩)] w (TxP t w) := by
  have HX := Lib.hid (rtext_any S t.sz t kv w (Nat.le_refl _) hM hF hin hT hD hP)
  have hpl := lt_blkB h
  have HH : Hid (w.heap[p]? = some (.cells (reA t kv g ext) 57 (0, 0))) := Lib.hid h
  have HC : Hid (∀ i u, (t.cells kv)[i]? = some u → (reA t kv g ext)[0 + i]? = some u) := Lib.hid (fun i u hu => by
    unfold reA
    rw [Nat.zero_add, List.getElem?_toArray, List.getElem?_append_left (by rw [Nd.cells_len]; exact (List.getElem?_eq_some_iff.1 hu).1)]
    exact hu)
  have HNV : Hid (t.v kv = .agg (t.cells kv).toArray) := Lib.hid rfl
  clear h hM hF hin hT hD hP
  unfold TxP at *
  go_enter Tryz.func11, Tryz.ntmps11
  go_wp2_with (first | (refine wpList_load_part rfl 39 _ rfl p 0 rfl _ (reA t kv g ext) (t.cells kv) (0, 0) _ HH.out HC.out Tryz.underlying39 rfl re_size ?_) | fail)
  refine HX.out.mono ?_
  rintro x w1 ⟨rfl, hb⟩
  have HB := Lib.hid hb
  clear hb
  go_wp2
  go_ret
  exact ⟨rfl, HB.out⟩
set_option maxHeartbeats 4000000 in
theorem Groups_at (w : World) (p : Nat) (t : Nd) (kv : Value) (g : Nat) (ext : Bool) (h : ReAt w p t kv g ext) :
    Calls Tryz.prog 7 #[.pointer (some ⟨p, 0, none⟩)] w fun x w' => x = .returned (.int .i64 g) ∧ w' = w := by
  have hpl := lt_blkB h
  have c9 : w.cell? ⟨p, 9, none⟩ = some (.int .i64 g) := (Lib.cell_of_heap h 9).trans rfl
  clear h
  go_enter Tryz.func7, Tryz.ntmps7
  go_wp2
  go_ret
  exact ⟨rfl, rfl⟩
end Go.Proofs.YthmgcebonplcgaaGreatDoor
/- awake; every law's expression. -/
namespace Go.Proofs.YthmgcebonplcgaaGreatDoor
open Go.RowKit

def awL : List Int := [40, 97, 124, 98, 41, 43]
def awT : Nd := repN 1 (-1) (grpN 1 (joinN 5 [setN (mem [97]), setN (mem [98])]))
theorem aw_parse (cf : ByteArray → (Nat → Bool) × Bool) : parseN cf awL true 30 = some (.ok awT 6 1) := by kernel_rfl
theorem aw_text : awT.txt = [40, 114, 101, 112, 32, 49, 32, 45, 32, 40, 103, 114, 111, 117, 112, 32, 49, 32, 40, 97, 108, 116, 32, 91, 54, 49, 93, 32, 91, 54, 50, 93, 41, 41, 41] := by kernel_rfl
theorem aw_fit : awT.Fit := by
  refine ⟨⟨⟨by decide, by decide⟩, ⟨by decide, by decide⟩, ⟨by decide, by decide⟩⟩, ⟨⟨⟨by decide, by decide⟩, ⟨by decide, by decide⟩, ⟨by decide, by decide⟩⟩, ⟨⟨⟨by decide, by decide⟩, ⟨by decide, by decide⟩, ⟨by decide, by decide⟩⟩, ?_, trivial⟩, trivial⟩⟩
  exact ⟨⟨⟨by decide, by decide⟩, ⟨by decide, by decide⟩, ⟨by decide, by decide⟩⟩, trivial, ⟨⟨by decide, by decide⟩, ⟨by decide, by decide⟩, ⟨by decide, by decide⟩⟩, trivial, trivial⟩
set_option maxRecDepth 100000 in
set_option maxHeartbeats 4000000 in
theorem awake8_any (cf : ByteArray → (Nat → Bool) × Bool) (hcf : ClassOk cf) (e : Nat → Addr) (w : World) (he : Es w w.heap.size e) (ht : Ety w) (hT : TZ w) (hD : DB w) (hP : TPr w) :
    Calls Tryz.prog 4 #[] w fun x w' => x = .returned (.bool true) ∧ Below w.heap.size w w' := by
  obtain ⟨W, hW⟩ : ∃ W, W = w.alloc (.cells #[.int .u8 40, .int .u8 97, .int .u8 124, .int .u8 98, .int .u8 41, .int .u8 43] 5 (6, 7)) := ⟨_, rfl⟩
  have hb : Below w.heap.size w W := by rw [hW]; exact (Below.refl _ _).alloc (Nat.le_refl _) _
  have hx : W.heap[w.heap.size]? = some (.cells #[.int .u8 40, .int .u8 97, .int .u8 124, .int .u8 98, .int .u8 41, .int .u8 43] 5 (6, 7)) := by rw [hW]; exact alloc_last w _
  have hz : W.heap.size = w.heap.size + 1 := by rw [hW]; simp
  have hs : Sl W (.slice (some ⟨w.heap.size, 0, none⟩) 6 6) awL := ⟨byt_ofR (by unfold awL; decide), by decide, Or.inr ⟨w.heap.size, 0, 6, rfl, by decide, by decide, fun i hi => by
    have h6 : i < 6 := hi
    rw [Lib.cell_of_heap hx, Nat.zero_add]
    match i, h6 with
    | 0, _ => rfl
    | 1, _ => rfl
    | 2, _ => rfl
    | 3, _ => rfl
    | 4, _ => rfl
    | 5, _ => rfl⟩⟩
  have he1 : Es W W.heap.size e := ⟨(he.below hb).var, by have := he.low; omega, Nat.le_refl _⟩
  have HPA := Lib.hid (parse_any cf e _ awL (bkC_of hcf _) true 30 (.ok awT 6 1) W he1 (ht.below hb) hs (fun x o n cap hv => by simp only [Value.slice.injEq, Option.some.injEq, Addr.mk.injEq] at hv; omega) (aw_parse cf))
  have HTX : Hid (∀ X p kv, Below w.heap.size w X → ReAt X p awT kv 1 true → awT.In X (fun b => W.heap.size ≤ b) kv → Calls Tryz.prog 11 #[.pointer (some ⟨p, 0, none⟩)] X fun x w' => x = .returned (.string ⟨#[40, 114, 101, 112, 32, 49, 32, 45, 32, 40, 103, 114, 111, 117, 112, 32, 49, 32, 40, 97, 108, 116, 32, 91, 54, 49, 93, 32, 91, 54, 50, 93, 41, 41, 41]⟩) ∧ Below X.heap.size X w') := Lib.hid (fun X p kv hX hr hi => by
    have := Text_at _ X p awT kv 1 true hr (by decide) aw_fit hi (hT.below hX) (hD.below hX) (hP.below hX)
    unfold TxP at this
    rw [aw_text] at this
    exact this)
  have HB := Lib.hid hb
  have kc := fun (w : World) (C : Array Value) (n c : Nat) => Lib.run_convert_bytes_const (P := Tryz.prog) w 22 5 C n c Tryz.underlying22 Tryz.underlying5
  clear he ht hT hD hP hb hx hs he1 hz
  subst hW
  go_enter Tryz.func4, Tryz.ntmps4
  go_wp2_with fail
  refine HPA.out.mono ?_
  rintro x w1 ⟨p, a, m, c, rfl, hp, hrow, hin, hb1⟩
  have hb2 : Below w.heap.size w w1 := below_thn HB.out (Nat.le_refl _) hb1
  have HT1 := Lib.hid (HTX.out w1 p _ hb2 hrow hin)
  have HB2 := Lib.hid hb2
  clear hp hrow hin hb1 hb2
  go_wp2_with fail
  refine HT1.out.mono ?_
  rintro x w2 ⟨rfl, hb3⟩
  have HB3 := Lib.hid (below_thn HB2.out (Nat.le_refl _) hb3)
  clear hb3
  go_wp2
  go_ret
  exact ⟨rfl, HB3.out⟩
end Go.Proofs.YthmgcebonplcgaaGreatDoor
/- A copy of a tree; Tree (gen_recl.py). -/
namespace Go.Proofs.YthmgcebonplcgaaGreatDoor
open Go.RowKit

theorem blk_set8 {X : World} {b : Nat} {n : Nd} {v : Value} (h : X.heap[b]? = some (.cells (n.cells v).toArray 39 (0, 0))) (y : Value) : (X.setCell ⟨b, 8, none⟩ y).heap[b]? = some (.cells (n.cells y).toArray 39 (0, 0)) := by
  simp [World.setCell, Array.getElem?_modify, h, Nd.cells]
theorem row_free {X : World} {b : Nat} {cs : Array Value} {t : TypeId} (h : X.heap[b]? = some (.cells cs t (0, 0))) (i : Nat) : X.frozen? ⟨b, i, none⟩ = false := by
  simp [World.frozen?, h]
theorem wp_append_ownR {P : Program} {o : Oper} {a : Act} {w : World} {K : Act → World → Prop} {Q : Exit → Act → World → Prop} (s x : Operand) (t : TypeId)
    (ho : o.op = .call { callee := .builtin .append, args := #[s, x], argTypes := #[t, t] })
    (base : Nat) (e : TypeId) (i : TypeInfo) (z : Value) (size bytes : Nat) (ht : P.underlying t = some (.slice e)) (hi : P.info? e = some i) (hz : i.zero = some z)
    (hsize : i.size = size) (hby : i.bytes = bytes) (hzs : z.cells.size = size) (hsz : 0 < size)
    (v : Value) (n : Nat) (xs : List Value) (hs : a.eval s = v) (hown : w.ownsRow base e size v n xs)
    (ad : Addr) (m c : Nat) (news : List Value) (hx : a.eval x = .slice (some ad) m c) (hl : news.length = m * size) (hnews : ∀ j u, news[j]? = some u → w.cell? (ad.add j) = some u) (h1 : ∀ u ∈ news, u.oneCell' = true)
    (h63 : n + m ≤ maxLen) (hbytes : (n + m) * bytes ≤ 140737488355328) (hbase : base ≤ w.heap.size)
    (h : ∀ v' w', w'.ownsRow base e size v' (n + m) (xs ++ news) → w.grownBy w' v.ownBlock → (v' = .slice none 0 0 ↔ v = .slice none 0 0 ∧ m = 0) → (v'.ownBlock = v.ownBlock ∨ v'.ownBlock = some w.heap.size) → K (a.put o.dst v') w') :
    o.wp P a w K Q := by
  obtain ⟨v', w', hr, h2, h3, h4, h5⟩ := run_append_own_at (P := P) w base t o.type e i z size bytes ht hi hz hsize hby hzs hsz v n xs hown ad m c news hl hnews h1 h63 hbytes hbase
  unfold Oper.wp execOp
  simp only [ho, resolve, invoke, builtin, Sem.run_bind, Sem.run_pure, Result.andThen_ok, List.map_toArray, List.map_cons, List.map_nil, hs, hx, hr]
  exact h v' w' h2 h3 h4 h5
/-- The state within the region that appends a kid's copy: the copy is told (3), laid (4), appended (5), the row is stored (7). -/
structure ClS (w W : World) (B pb kb : Nat) (n nd : Nd) (kc : List Value) (v : Value) (l l' : List Nd) (d3 d4 d5 d7 : Bool) (u3 u4 u5 : Value) (X : World) : Prop where
  bel : Below pb w X
  size : W.heap.size ≤ X.heap.size
  kid : X.heap[kb]? = some (.cells kc.toArray 39 (0, 0))
  res : X.heap[pb + 1]? = some (.cells zero9 39 (0, 0))
  part : d7 = false → X.heap[pb]? = some (.cells (n.cells v).toArray 39 (0, 0))
  own : d5 = false → OwnT B v l X
  cl : d3 = true → d5 = false → ∃ a m c, u3 = nd.v (.slice a m c) ∧ nd.In X (fun b => B ≤ b ∧ v.ownBlock ≠ some b) (.slice a m c)
  lit : d4 = true → d5 = false → ∃ g a m c, u4 = .slice (some ⟨g, 0, none⟩) 1 1 ∧ X.heap[g]? = some (.cells (nd.cells (.slice a m c)).toArray 39 (0, 0)) ∧ nd.In X (fun b => B ≤ b ∧ v.ownBlock ≠ some b) (.slice a m c)
  new : d5 = true → OwnT B u5 l' X
  part' : d7 = true → X.heap[pb]? = some (.cells (n.cells u5).toArray 39 (0, 0))
def ClP (n : Nd) (w : World) (x : Ending) (w' : World) : Prop := ∃ a m c, x = .returned (n.v (.slice a m c)) ∧ n.In w' (fun b => w.heap.size ≤ b) (.slice a m c) ∧ Below w.heap.size w w'
/-- The state of the loop. -/
structure ClL (w : World) (B pb : Nat) (n : Nd) (l : List Nd) (wr : World) : Prop where
  bel : Below pb w wr
  size : B ≤ wr.heap.size
  row : ∃ v, wr.heap[pb]? = some (.cells (n.cells v).toArray 39 (0, 0)) ∧ OwnT B v l wr
  res : wr.heap[pb + 1]? = some (.cells zero9 39 (0, 0))

set_option maxRecDepth 100000 in
set_option maxHeartbeats 16000000 in
theorem clone_step (S : Nat → Prop) (n : Nd) (l : List Nd) (a : Option Addr) (m c : Nat) (w : World) (hl : n.kids = fo l) (hnl : l.length ≤ 1000000) (hin : n.In w S (.slice a m c))
    (ih : ∀ k (h : k < l.length) a' m' c' W, (l[k]).In w S (.slice a' m' c') → Below w.heap.size w W → Calls Tryz.prog 19 #[(l[k]).v (.slice a' m' c')] W (ClP (l[k]) W)) :
    Calls Tryz.prog 19 #[n.v (.slice a m c)] w (ClP n w) := by
  obtain ⟨i0, z0, hi, hz0, hz1, hz2, hz3⟩ := re_parts
  obtain ⟨W, hW⟩ : ∃ W, W = (w.alloc (.cells (n.cells (.slice a m c)).toArray 39)).alloc (.cells zero9 39) := ⟨_, rfl⟩
  have hbx : W.heap[w.heap.size]? = some (.cells (n.cells (.slice a m c)).toArray 39 (0, 0)) := by rw [hW]; exact blk_alloc (alloc_last w _) _
  have hrx : W.heap[w.heap.size + 1]? = some (.cells zero9 39 (0, 0)) := by rw [hW]; have := alloc_last (w.alloc (.cells (n.cells (.slice a m c)).toArray 39)) (.cells zero9 39); simpa using this
  have hb : Below w.heap.size w W := by rw [hW]; exact ((Below.refl _ _).alloc (Nat.le_refl _) _).alloc (by simp) _
  have hNZ : W.heap.size = w.heap.size + 2 := by rw [hW]; simp
  have hlen : m = l.length := by
    obtain ⟨ks, h1, _⟩ := hin
    obtain ⟨_, cap, e⟩ := h1.shape
    simp only [Value.slice.injEq] at e
    rw [e.2.1, hl, fo_len]
  subst hlen
  have HKD : Hid (∀ k (h : k < l.length), ∃ kg kcap cur kv, Value.slice a l.length c = .slice (some ⟨kg, 0, none⟩) l.length kcap ∧ kg < w.heap.size ∧ w.heap[kg]? = some (.cells cur 39 (0, 0)) ∧ (l[k]).In w S kv ∧ (∀ i u, ((l[k]).cells kv)[i]? = some u → cur[k * 9 + i]? = some u)) := Lib.hid (fun k h => by
    obtain ⟨ks, ⟨hown, _⟩, hlay⟩ := hin
    rw [hl] at hlay
    obtain ⟨kv, hki, hkc⟩ := lay_at hlay (List.getElem?_eq_getElem h)
    obtain ⟨_, ⟨hn0, hz⟩ | ⟨g, cap, cur, hv, _, hg, hnc, _, hcs, htk⟩⟩ := hown
    · rw [hl, fo_len] at hz
      omega
    · refine ⟨g, cap, cur, kv, ?_, lt_blkB hg, hg, hki, fun i u hu => ?_⟩
      · simp only [Value.slice.injEq] at hv ⊢
        exact ⟨hv.1, trivial, hv.2.2⟩
      · have hi9 : i < 9 := (List.getElem?_eq_some_iff.1 hu).1
        have h1 := (hkc i hi9).trans hu
        rw [← htk, List.getElem?_take] at h1
        split at h1
        · simpa using h1
        · cases h1)
  have HIH := Lib.hid ih
  have HL := Lib.hid hl
  have c8 : W.cell? ⟨w.heap.size, 8, none⟩ = some (.slice a l.length c) := (Lib.cell_of_heap hbx 8).trans rfl
  have f8 : W.frozen? ⟨w.heap.size, 8, none⟩ = false := row_free hbx 8
  have HW2 : Hid (ClL w (w.heap.size + 2) w.heap.size n [] (W.setCell ⟨w.heap.size, 8, none⟩ (.slice none 0 0))) := Lib.hid (by
    refine ⟨hb.setCell (p := ⟨w.heap.size, 8, none⟩) (Nat.le_refl _) _, by simp; omega, ⟨.slice none 0 0, blk_set8 hbx _, OwnT.nil _ _⟩, ?_⟩
    rw [Below.heap_setCell _ _ _ _ (by simp)]
    exact hrx)
  have hsz : w.heap.size < W.heap.size := by omega
  have HWE := Lib.hid hW
  have HI := Lib.hid hi
  have HZ0 := Lib.hid hz0
  have HZ1 := Lib.hid hz1
  have HZ2 := Lib.hid hz2
  have HZ3 := Lib.hid hz3
  have HNV : Hid (n.v (.slice a l.length c) = .agg (n.cells (.slice a l.length c)).toArray) := Lib.hid rfl
  rw [HNV.out]
  clear hbx hrx hb hW hl hin ih hi hz0 hz1 hz2 hz3 hNZ
  unfold ClP
  generalize (n.cells (.slice a l.length c)).toArray = cs at *
  unfold zero9 at HWE
  go_enter Tryz.func19, Tryz.ntmps19
  go_upto_region 1 with fail
  rw [← HWE.out]
  go_upto_region 3 with fail
  obtain ⟨W2, hW2⟩ : ∃ W2, W2 = W.setCell ⟨w.heap.size, 8, none⟩ (.slice none 0 0) := ⟨_, rfl⟩
  rw [← hW2] at HW2 ⊢
  clear hW2 c8 f8 HWE hsz
  go_upto_region 4 with fail
  go_loopg [11] (l.length) (fun g i wr => ∃ k : Nat, g = l.length - k ∧ k ≤ l.length ∧ i = .int .i64 k ∧ Aside (ClL w (w.heap.size + 2) w.heap.size n (l.take k) wr))
  case atStart => exact ⟨0, by omega, Nat.zero_le _, rfl, HW2.out⟩
  case round =>
    obtain ⟨k, rfl, hk, rfl, hal⟩ := hrel
    have hI := hal.out
    clear hal HW2
    have hbr := hI.bel
    have hwz := hI.size
    by_cases hlt : k < l.length
    · obtain ⟨kg, kcap, cur, kv, hka, hgw, hcur, hin, hcl⟩ := HKD.out k hlt
      obtain ⟨ta, tm, tc, rfl⟩ := hin.shape
      simp only [Value.slice.injEq] at hka
      obtain ⟨rfl, _, rfl⟩ := hka
      have hlti : (k : Int) < (l.length : Int) := by omega
      have hk0 : (0 : Int) ≤ (k : Int) := by omega
      have hX : wr.heap[kg]? = some (.cells cur 39 (0, 0)) := (hbr.block kg hgw).trans hcur
      have hgk := lt_blkB hX
      obtain ⟨nd, hnd⟩ : ∃ nd, nd = l[k] := ⟨_, rfl⟩
      have HRE : Hid (∀ X, Below w.heap.size w X → Calls Tryz.prog 19 #[nd.v (.slice ta tm tc)] X (ClP nd X)) := Lib.hid (fun X hX => by rw [hnd]; exact HIH.out k hlt ta tm tc X hin hX)
      have HTK : Hid (l.take (k + 1) = l.take k ++ [nd]) := Lib.hid (by rw [hnd, List.take_succ_eq_append_getElem hlt])
      have HTL : Hid ((l.take k).length = k) := Lib.hid (by rw [List.length_take]; omega)
      have HTL1 : Hid ((l.take (k + 1)).length = k + 1) := Lib.hid (by rw [List.length_take]; omega)
      rw [← hnd] at hin hcl
      obtain ⟨v, hpv, hov⟩ := hI.row
      obtain ⟨va, vc, rfl⟩ := hov.shape
      rw [HTL.out] at hpv hov
      obtain ⟨W5, hW5⟩ : ∃ W5, W5 = wr.alloc (.cells zero9 39) := ⟨_, rfl⟩
      have hT5 : W5.heap[wr.heap.size]? = some (.cells zero9 39 (0, 0)) := by rw [hW5]; exact alloc_last _ _
      obtain ⟨W6, hW6⟩ : ∃ W6, W6 = W5.setRow wr.heap.size (nd.cells (.slice ta tm tc)).toArray := ⟨_, rfl⟩
      have hb6 : Below wr.heap.size wr W6 := by rw [hW6, hW5]; exact below_setRow ((Below.refl _ _).alloc (Nat.le_refl _) _) (Nat.le_refl _) _
      have hT6 : W6.heap[wr.heap.size]? = some (.cells (nd.cells (.slice ta tm tc)).toArray 39 (0, 0)) := by rw [hW6]; exact setRow_selfR hT5 _
      have HS0 : Hid (ClS w W6 (w.heap.size + 2) w.heap.size wr.heap.size n nd (nd.cells (.slice ta tm tc)) (.slice va k vc) (l.take k) (l.take (k + 1)) false false false false undef undef undef W6.drew) := Lib.hid
        ⟨(below_thn hbr (by omega) hb6).drew, Nat.le_refl _, hT6, (show W6.heap[w.heap.size + 1]? = _ from blk_below hI.res hb6), fun _ => (show W6.heap[w.heap.size]? = _ from blk_below hpv hb6), fun _ => (hov.below hb6).kept (SameR.below (Below.refl _ _).drew), fun h => (by cases h), fun h => (by cases h), fun h => (by cases h), fun h => (by cases h)⟩
      have HVB : Hid (Value.ownBlock (.slice va k vc) ≠ some wr.heap.size) := Lib.hid (fun e => by have := hov.row e; omega)
      have HX := Lib.hid hX
      have HCL := Lib.hid hcl
      have HT5 := Lib.hid hT5
      have HW5 := Lib.hid hW5
      have HW6 := Lib.hid hW6
      have hz6 : wr.heap.size < W6.heap.size := lt_blkB hT6
      have hkl : k ≤ 1000000 := by omega
      have hvl : (l.take k).length ≤ 1000000 := by have := HTL.out; omega
      clear hI hbr hX hcl hcur hin hnd hW5 hT5 hW6 hb6 hgw hpv hov hT6
      unfold zero9 at HW5
      go_upto_region 6 with (first | (refine wpList_load_part rfl 39 _ rfl kg (k * 9) rfl _ cur (nd.cells (.slice ta tm tc)) (0, 0) _ HX.out HCL.out Tryz.underlying39 rfl re_size ?_) | (rw [← HW5.out]; refine wpList_store_re rfl _ _ rfl rfl wr.heap.size nd ta tm tc rfl rfl _ HT5.out rfl ?_; rw [← HW6.out]) | fail)
      clear hlti hk0 HX HCL HT5 HW5 HW6
      refine Reg.wp_region_sto (fun L u X => ClS w W6 (w.heap.size + 2) w.heap.size wr.heap.size n nd (nd.cells (.slice ta tm tc)) (.slice va k vc) (l.take k) (l.take (k + 1)) (L 3) (L 4) (L 5) (L 7) (u 3) (u 4) (u 5) X) (fun j => ([some (.pointer (some ⟨w.heap.size, 8, none⟩)), some (.slice va k vc), some (nd.v (.slice ta tm tc)), none, none, none, some (.pointer (some ⟨w.heap.size, 8, none⟩)), none] : List (Option Value)).getD j none) (by kernel_rfl) (by kernel_rfl) (by kernel_rfl) (by kernel_rfl) ?rs0 ?rsE ?rsZ
      case rs0 => exact HS0.out
      case rsE =>
        refine Reg.EachG.plain rfl (fun L u T X hL hz hS hk K hK => ?_) ?_
        · skip
          have g1 : T[1]? = some (.pointer (some ⟨w.heap.size, 0, none⟩)) := hk.old 1 (by kernel_rfl) rfl
          have hK := hK _ X hS (fun _ hx => Option.some.inj hx)
          clear hk hz hL
          go_simp
          exact hK
        refine Reg.EachG.plain rfl (fun L u T X hL hz hS hk K hK => ?_) ?_
        · skip
          have g15 : T[15]? = some (.pointer (some ⟨w.heap.size, 8, none⟩)) := hk.val 0 15 (by kernel_rfl) (by kernel_rfl) rfl
          have hd : L 7 = false := hz 7 (by kernel_rfl)
          have c8 : X.cell? ⟨w.heap.size, 8, none⟩ = some (.slice va k vc) := (Lib.cell_of_heap (hS.part hd) 8).trans rfl
          have hb8 := lt_blkB (hS.part hd)
          have hK := hK _ X hS (fun _ hx => Option.some.inj hx)
          clear hk hz hL hd hS
          go_simp
          exact hK
        refine Reg.EachG.plain rfl (fun L u T X hL hz hS hk K hK => ?_) ?_
        · skip
          have g5 : T[5]? = some (.pointer (some ⟨wr.heap.size, 0, none⟩)) := hk.old 5 (by kernel_rfl) rfl
          refine wp_load_part 39 _ rfl wr.heap.size 0 (by simp [Act.eval, g5]) _ (nd.cells (.slice ta tm tc)).toArray (nd.cells (.slice ta tm tc)) (0, 0) _ hS.kid (fun j u hu => by rw [Nat.zero_add]; simpa using hu) Tryz.underlying39 rfl re_size ?_
          exact hK _ X hS (fun _ hx => Option.some.inj hx)
        refine Reg.EachG.plain rfl (fun L u T X hL hz hS hk K hK => ?_) ?_
        · skip
          have g17 : T[17]? = some (nd.v (.slice ta tm tc)) := hk.val 2 17 (by kernel_rfl) (by kernel_rfl) rfl
          have hd5 : L 5 = false := hz 5 (by kernel_rfl)
          have hd4 : L 4 = false := hz 4 (by kernel_rfl)
          have hd7 : L 7 = false := hz 7 (by kernel_rfl)
          have hC := HRE.out X hS.bel
          clear hk hz
          unfold ClP at hC
          go_simp
          refine hC.mono ?_
          rintro x w' ⟨xa, xm, xc, rfl, hxi, hxb⟩
          refine hK _ w' ⟨below_thn hS.bel (by have := hS.size; omega) hxb, Nat.le_trans hS.size hxb.size, blk_below hS.kid hxb, blk_below hS.res hxb, fun _ => blk_below (hS.part hd7) hxb, fun _ => (hS.own hd5).below hxb, fun _ _ => ⟨xa, xm, xc, by rw [Reg.upd_same], hxi.mono fun b hb _ => ⟨by have := hS.size; omega, fun e => ?_⟩⟩, fun h => (by rw [Reg.upd_ne _ _ (by decide), hd4] at h; cases h), fun h => (by rw [Reg.upd_ne _ _ (by decide), hd5] at h; cases h), fun h => (by rw [Reg.upd_ne _ _ (by decide), hd7] at h; cases h)⟩ (fun _ hx => by cases hx)
          have := (hS.own hd5).row e
          omega
        refine Reg.EachG.plain rfl (fun L u T X hL hz hS hk K hK => ?_) ?_
        · skip
          obtain ⟨g18, l18⟩ := hk.any 3 18 (by kernel_rfl) (by kernel_rfl)
          have hd5 : L 5 = false := hz 5 (by kernel_rfl)
          have hd7 : L 7 = false := hz 7 (by kernel_rfl)
          obtain ⟨xa, xm, xc, e3, hxi⟩ := hS.cl l18 hd5
          rw [e3] at g18
          have hK := hK (.slice (some ⟨X.heap.size, 0, none⟩) 1 1) (X.alloc (.cells (nd.cells (.slice xa xm xc)).toArray 39)) ⟨hS.bel.alloc (by have := hS.size; omega) _, by have := hS.size; simp; omega, blk_alloc hS.kid _, blk_alloc hS.res _, fun _ => blk_alloc (hS.part hd7) _, fun _ => (hS.own hd5).below ((Below.refl _ _).alloc (Nat.le_refl _) _), fun _ _ => ⟨xa, xm, xc, by rw [Reg.upd_ne _ _ (by decide), e3], hxi.below ((Below.refl _ _).alloc (Nat.le_refl _) _)⟩, fun _ _ => ⟨_, xa, xm, xc, by rw [Reg.upd_same], alloc_last X _, hxi.below ((Below.refl _ _).alloc (Nat.le_refl _) _)⟩, fun h => (by rw [Reg.upd_ne _ _ (by decide), hd5] at h; cases h), fun h => (by rw [Reg.upd_ne _ _ (by decide), hd7] at h; cases h)⟩ (fun _ hx => by cases hx)
          clear hk hz hL hd7 hd5 hS hxi e3
          unfold Nd.v Nd.cells at g18
          unfold Nd.cells at hK
          go_simp
          exact hK
        refine Reg.EachG.plain rfl (fun L u T X hL hz hS hk K hK => ?_) ?_
        · skip
          have g16 : T[16]? = some (.slice va k vc) := hk.val 1 16 (by kernel_rfl) (by kernel_rfl) rfl
          obtain ⟨g19, l19⟩ := hk.any 4 19 (by kernel_rfl) (by kernel_rfl)
          have hd7 : L 7 = false := hz 7 (by kernel_rfl)
          obtain ⟨g, xa, xm, xc, e4, hg, hxi⟩ := hS.lit l19 hL
          rw [e4] at g19
          obtain ⟨xs, hox, hlx⟩ := hS.own hL
          have htl := HTL.out
          rw [htl] at hox
          refine wp_append_ownR (.tmp 16) (.tmp 19) 37 rfl (w.heap.size + 2) 39 i0 z0 9 88 Tryz.underlying37 HI.out HZ0.out HZ1.out HZ2.out HZ3.out (by decide) (.slice va k vc) k xs (by simp [Act.eval, g16]) hox ⟨g, 0, none⟩ 1 1 (nd.cells (.slice xa xm xc)) (by simp [Act.eval, g19]) rfl ?hnews ?hone ?h63 ?hby ?hba ?_
          case hnews => (intro j u hj; rw [addz]; rw [Lib.cell_of_heap hg]; simpa using hj)
          case hone => exact cells_one9 _ _ _ _
          case h63 => (unfold maxLen; omega)
          case hby => omega
          case hba => (have := hS.size; omega)
          intro v' w' ho' hg' _ hv'
          have hob := own_row hox
          have hbl : Below w.heap.size w w' := ⟨hg'.os.trans hS.bel.os, hg'.tape.trans hS.bel.tape, hg'.output.trans hS.bel.output, Nat.le_trans hS.bel.size hg'.size, fun i hi => (hg'.block i (by have := hS.size; omega) (fun e => by have := (hob i e.symm).1; omega)).trans (hS.bel.block i hi)⟩
          have hkb : Value.ownBlock (.slice va k vc) ≠ some wr.heap.size := HVB.out
          refine hK v' w' ⟨hbl, Nat.le_trans hS.size hg'.size, (hg'.block _ (lt_blkB hS.kid) (fun e => hkb e.symm)).trans hS.kid, (hg'.block _ (lt_blkB hS.res) (fun e => by have := (hob _ e.symm).1; omega)).trans hS.res, fun _ => (hg'.block _ (lt_blkB (hS.part hd7)) (fun e => by have := (hob _ e.symm).1; omega)).trans (hS.part hd7), fun h => (by rw [Reg.upd_same] at h; cases h), fun _ h => (by rw [Reg.upd_same] at h; cases h), fun _ h => (by rw [Reg.upd_same] at h; cases h), fun _ => (by rw [Reg.upd_same, HTK.out]; exact OwnT.snoc hlx hxi (by rw [htl]; exact ho') hg' (by simpa using hv')), fun h => (by rw [Reg.upd_ne _ _ (by decide), hd7] at h; cases h)⟩ (fun _ hx => by cases hx)
        refine Reg.EachG.plain rfl (fun L u T X hL hz hS hk K hK => ?_) ?_
        · skip
          have g1 : T[1]? = some (.pointer (some ⟨w.heap.size, 0, none⟩)) := hk.old 1 (by kernel_rfl) rfl
          have hK := hK _ X hS (fun _ hx => Option.some.inj hx)
          clear hk hz hL
          go_simp
          exact hK
        refine Reg.EachG.plain rfl (fun L u T X hL hz hS hk K hK => ?_) ?_
        · skip
          obtain ⟨g20, l20⟩ := hk.any 5 20 (by kernel_rfl) (by kernel_rfl)
          have g21 : T[21]? = some (.pointer (some ⟨w.heap.size, 8, none⟩)) := hk.val 6 21 (by kernel_rfl) (by kernel_rfl) rfl
          have hnew := hS.new l20
          have hp := hS.part hL
          have c8 : X.cell? ⟨w.heap.size, 8, none⟩ = some (.slice va k vc) := (Lib.cell_of_heap hp 8).trans rfl
          have f8 := row_free hp 8
          have hb8 := lt_blkB hp
          have hne : wr.heap.size ≠ w.heap.size := by omega
          have hK := hK undef (X.setCell ⟨w.heap.size, 8, none⟩ (u 5)) ⟨hS.bel.setCell (p := ⟨w.heap.size, 8, none⟩) (Nat.le_refl _) _, by have := hS.size; simpa using this, (Below.heap_setCell _ _ _ _ hne).trans hS.kid, (Below.heap_setCell _ _ _ _ (by simp)).trans hS.res, fun h => (by rw [Reg.upd_same] at h; cases h), fun h => (by rw [Reg.upd_ne _ _ (by decide), l20] at h; cases h), fun _ h => (by rw [Reg.upd_ne _ _ (by decide), l20] at h; cases h), fun _ h => (by rw [Reg.upd_ne _ _ (by decide), l20] at h; cases h), fun _ => (by rw [Reg.upd_ne _ _ (by decide)]; exact hnew.kept fun b hb cs hc => Below.heap_setCell _ _ _ _ (by simp; omega)), fun _ => (by rw [Reg.upd_ne _ _ (by decide)]; exact blk_set8 hp _)⟩ (fun _ hx => by cases hx)
          obtain ⟨a7, cap7, e7⟩ := hnew.shape
          rw [e7] at hK g20
          rw [HTL1.out] at hK g20
          clear hk hz hL hS hnew hp e7
          go_simp
          exact hK
        exact Reg.EachG.nil
      case rsZ =>
        intro L u w1 hL hS hI
        have e0 : u 0 = .pointer (some ⟨w.heap.size, 8, none⟩) := hI 0 (by decide) _ rfl
        have e1 : u 1 = .slice va k vc := hI 1 (by decide) _ rfl
        have e2 : u 2 = nd.v (.slice ta tm tc) := hI 2 (by decide) _ rfl
        have e6 : u 6 = .pointer (some ⟨w.heap.size, 8, none⟩) := hI 6 (by decide) _ rfl
        clear hI
        simp only [Reg.putAll, Act.put, List.setIfInBounds_toArray, List.set_cons_succ, List.set_cons_zero, Nat.zero_add, Nat.reduceAdd, e0, e1, e2, e6]
        clear e0 e1 e2 e6
        have d5 := hL 5 (by decide)
        have d7 := hL 7 (by decide)
        have hnew := hS.new d5
        have hpart := hS.part' d7
        have hbel := hS.bel
        have hres := hS.res
        have hsz1 := hS.size
        generalize u 3 = y3 at *
        generalize u 4 = y4 at *
        generalize u 5 = y5 at *
        have HN : Hid (ClL w (w.heap.size + 2) w.heap.size n (l.take (k + 1)) w1) := Lib.hid ⟨hbel, by omega, ⟨y5, hpart, hnew⟩, hres⟩
        clear hS hnew hpart d5 d7 hL u L hbel hres
        go_wp2_with fail
        go_roundg (l.length - (k + 1))
        case measure => omega
        case rel => exact ⟨k + 1, rfl, by omega, by simp, HN.out⟩
    · obtain rfl : k = l.length := by omega
      have hnl : ¬ (l.length : Int) < (l.length : Int) := by omega
      rw [List.take_length] at hI
      obtain ⟨v, hpv, hov⟩ := hI.row
      obtain ⟨va, vc, rfl⟩ := hov.shape
      have HPV := Lib.hid hpv
      have HRX := Lib.hid hI.res
      have HOV := Lib.hid hov
      have HBR := Lib.hid hbr
      have hpl := lt_blkB hpv
      have hrl := lt_blkB hI.res
      clear hpv hov hI hbr HKD HIH
      go_wp2_with (first | (refine wpList_load_row rfl 39 _ rfl w.heap.size rfl _ _ (0, 0) _ HPV.out Tryz.underlying39 rfl re_size ?_) | (refine wpList_store_re rfl _ _ rfl rfl (w.heap.size + 1) n va l.length vc rfl rfl _ HRX.out rfl ?_) | fail)
      refine bodyPost_ret (results_re1 rfl _ _ (w.heap.size + 1) n _ rfl (setRow_selfR HRX.out _)) rfl ⟨va, l.length, vc, rfl, ?_, below_setRow HBR.out (by omega) _⟩
      obtain ⟨ks, h1, h2⟩ := (HOV.out.kept (w' := wr.setRow (w.heap.size + 1) (n.cells (.slice va l.length vc)).toArray) (fun b hb cs hc => setRow_other _ _ _ _ (by omega))).kids
      refine ⟨ks, ?_, ?_⟩
      · rw [HL.out, fo_len]
        exact h1.mono fun b hb _ => by omega
      · rw [HL.out]
        exact h2.mono (fun b hb _ => by omega)
/-- A copy of any tree that lies in memory. -/
theorem clone_any (S : Nat → Prop) : ∀ (N : Nat) (n : Nd) (kv : Value) (w : World), n.sz ≤ N → n.sz ≤ 1000000 → n.In w S kv → Calls Tryz.prog 19 #[n.v kv] w (ClP n w) := by
  intro N
  induction N with
  | zero => intro n kv w h; unfold Nd.sz at h; omega
  | succ N IH =>
    intro n kv w h hM hin
    obtain ⟨a, m, c, rfl⟩ := hin.shape
    obtain ⟨l, hl⟩ : ∃ l, n.kids = fo l := ⟨n.kids.toL, (fo_toL _).symm⟩
    have hs : 1 + szL l ≤ N + 1 := by unfold Nd.sz at h; rw [hl] at h; exact h
    have hs2 : 1 + szL l ≤ 1000000 := by unfold Nd.sz at hM; rw [hl] at hM; exact hM
    have hll : l.length ≤ szL l := by have := fo_sz_len (fo l); rw [fo_len] at this; exact this
    exact clone_step S n l a m c w hl (by omega) hin fun k hk a' m' c' W hi hb =>
      IH _ _ W (by have := sz_at l k hk; omega) (by have := sz_at l k hk; omega) (hi.below hb)
set_option maxHeartbeats 4000000 in
theorem Tree_at (S : Nat → Prop) (w : World) (p : Nat) (t : Nd) (kv : Value) (g : Nat) (ext : Bool) (h : ReAt w p t kv g ext) (hM : t.sz ≤ 1000000) (hin : t.In w S kv) :
    Calls Tryz.prog 9 #[.pointer (some ⟨p, 0, none⟩)] w (ClP t w) := by
  have hw0 : Below w.heap.size w (w.alloc (.cells zero9 39)) := (Below.refl _ _).alloc (Nat.le_refl _) _
  obtain ⟨W, hW⟩ : ∃ W, W = w.alloc (.cells zero9 39) := ⟨_, rfl⟩
  rw [← hW] at hw0
  have HG : Hid (W.heap[w.heap.size]? = some (.cells zero9 39 (0, 0))) := Lib.hid (by rw [hW]; exact alloc_last w _)
  have HX := Lib.hid (clone_any S t.sz t kv W (Nat.le_refl _) hM (hin.below hw0))
  have h' := blk_below h hw0
  have hpl := lt_blkB h'
  have HH : Hid (W.heap[p]? = some (.cells (reA t kv g ext) 57 (0, 0))) := Lib.hid h'
  have HC : Hid (∀ i u, (t.cells kv)[i]? = some u → (reA t kv g ext)[0 + i]? = some u) := Lib.hid (fun i u hu => by
    unfold reA
    rw [Nat.zero_add, List.getElem?_toArray, List.getElem?_append_left (by rw [Nd.cells_len]; exact (List.getElem?_eq_some_iff.1 hu).1)]
    exact hu)
  have HB0 := Lib.hid hw0
  have HWE := Lib.hid hW
  have hps : p < w.heap.size := lt_blkB h
  have hz : W.heap.size = w.heap.size + 1 := by rw [hW]; simp
  clear h hM hin hw0 h' hW
  unfold ClP at *
  unfold zero9 at HWE
  go_enter Tryz.func9, Tryz.ntmps9
  go_upto_region 1 with fail
  rw [← HWE.out]
  go_wp2_with (first | (refine wpList_load_part rfl 39 _ rfl p 0 rfl _ (reA t kv g ext) (t.cells kv) (0, 0) _ HH.out HC.out Tryz.underlying39 rfl re_size ?_) | fail)
  refine HX.out.mono ?_
  rintro x w1 ⟨ta, tm, tc, rfl, hti, hb⟩
  have hG1 := blk_below HG.out hb
  have HG1 := Lib.hid hG1
  have hg1l := lt_blkB hG1
  have HB := Lib.hid (below_thn HB0.out (Nat.le_refl _) hb)
  have HTI := Lib.hid hti
  clear hb hti hG1
  go_wp2_with (first | (refine wpList_store_re rfl _ _ rfl rfl w.heap.size t ta tm tc rfl rfl _ HG1.out rfl ?_) | fail)
  refine bodyPost_ret (results_re1 rfl _ _ w.heap.size t _ rfl (setRow_selfR HG1.out _)) rfl ⟨ta, tm, tc, rfl, ?_, below_setRow HB.out (Nat.le_refl _) _⟩
  refine (HTI.out.kept fun b hb cs hc => setRow_other _ _ _ _ (by omega)).mono fun b hb _ => by omega
end Go.Proofs.YthmgcebonplcgaaGreatDoor
/- The trees that reading tells fit, and are small (pure). -/
namespace Go.Proofs.YthmgcebonplcgaaGreatDoor
open Go.RowKit

def fitL (l : List Nd) : Prop := ∀ x ∈ l, x.Fit
theorem fo_fit : ∀ l : List Nd, fitL l → (fo l).Fit
  | [], _ => trivial
  | n :: r, h => ⟨(h n (by simp)).1, (h n (by simp)).2, fo_fit r fun x hx => h x (List.mem_cons_of_mem _ hx)⟩
theorem fit_zero {kd : Int} {p : Nat → Bool} {mn mx gp : Int} {kids : Fo} (h1 : -9223372036854775808 ≤ mn ∧ mn ≤ 9223372036854775807) (h2 : -9223372036854775808 ≤ mx ∧ mx ≤ 9223372036854775807) (h3 : -9223372036854775808 ≤ gp ∧ gp ≤ 9223372036854775807) (hk : kids.Fit) : (Nd.mk kd p mn mx gp kids).Fit := ⟨⟨h1, h2, h3⟩, hk⟩
theorem fit_join {kd : Int} {l : List Nd} (h : fitL l) : (joinN kd l).Fit := by
  unfold joinN
  split
  · exact h _ (by simp)
  · exact fit_zero (by omega) (by omega) (by omega) (fo_fit _ h)
theorem fit_snoc {l : List Nd} {x : Nd} (h : fitL l) (hx : x.Fit) : fitL (l ++ [x]) := fun y hy => by
  rcases List.mem_append.1 hy with h1 | h1
  · exact h y h1
  · rw [List.mem_singleton.1 h1]; exact hx
theorem fit_one {x : Nd} (h : x.Fit) : fitL [x] := fun y hy => by rw [List.mem_singleton.1 hy]; exact h
theorem fit_repN {x : Nd} {m n : Int} (h : x.Fit) (h1 : -1 ≤ m ∧ m ≤ 255) (h2 : -1 ≤ n ∧ n ≤ 255) : (repN m n x).Fit := fit_zero (by omega) (by omega) (by omega) (fo_fit _ (fit_one h))
theorem fit_rep {l : List Nd} {m n : Int} (h : fitL l) (h1 : -1 ≤ m ∧ m ≤ 255) (h2 : -1 ≤ n ∧ n ≤ 255) : fitL (repL l m n) := by
  unfold repL
  cases hx : l.getLast? with
  | none => exact h
  | some x => exact fit_snoc (fun y hy => h y (List.dropLast_subset _ hy)) (fit_repN (h x (List.mem_of_getLast? hx)) h1 h2)
theorem nD_first {l : List Int} (hl : Byt l) {k : Nat} (h : 0 < nD l k) : l.getD k 0 ≠ 45 := by
  unfold nD passN at h
  have h1 := (stopN_is (passB (ofBys l) dgtB true k) ((ofBys l).size - k)).2.1 0 h
  unfold passB at h1
  rw [Nat.add_zero, beq_iff_eq] at h1
  have e : bys dgtB = [48, 49, 50, 51, 52, 53, 54, 55, 56, 57] := by decide
  rw [e] at h1
  unfold inB at h1
  have h2 : atB (ofBys l) k ∈ ([48, 49, 50, 51, 52, 53, 54, 55, 56, 57] : List Int) := by simpa using h1
  unfold atB at h2
  rw [bys_ofBys hl] at h2
  intro h45
  rw [h45] at h2
  simp at h2
theorem numV_fits {l : List Int} (hl : Byt l) {k : Nat} (h : numOk l k = true) : 0 ≤ numV l k ∧ numV l k ≤ 255 := by
  unfold numOk at h
  simp only [Bool.and_eq_true, decide_eq_true_eq] at h
  refine ⟨?_, h.2⟩
  unfold numV wV
  rw [if_pos h.1.1]
  split
  · rename_i h45
    exfalso
    by_cases hn : 0 < nD l k
    · refine nD_first hl hn ?_
      unfold dgs at h45
      rw [List.getD_eq_getElem?_getD, List.getElem?_take, if_pos hn, List.getElem?_drop, Nat.add_zero, ← List.getD_eq_getElem?_getD] at h45
      exact h45
    · unfold dgs at h45
      rw [show nD l k = 0 by omega] at h45
      simp at h45
  · exact valK_nonneg 10 (by decide) _ _ (Nat.le_refl _)
theorem itv_fits {l : List Int} (hl : Byt l) {ext : Bool} {k : Nat} {m n : Int} {k2 : Nat} (h : itv l ext k = some (m, n, k2)) : (-1 ≤ m ∧ m ≤ 255) ∧ (-1 ≤ n ∧ n ≤ 255) := by
  unfold itv at h
  split at h
  · cases h
  rename_i h0
  have a := numV_fits hl (k := k) (by simpa using h0)
  split at h
  · simp only [Option.some.injEq, Prod.mk.injEq] at h; omega
  split at h
  · cases h
  split at h
  · simp only [Option.some.injEq, Prod.mk.injEq] at h; omega
  split at h
  · rename_i h3
    simp only [Bool.and_eq_true] at h3
    have b := numV_fits hl (k := k + nD l k + 1) h3.1.1
    simp only [Option.some.injEq, Prod.mk.injEq] at h; omega
  · cases h
theorem sg_num (cf : ByteArray → (Nat → Bool) × Bool) {l : List Int} (hl : Byt l) (ext : Bool) (k : Nat) : (sg cf l ext k).kd = 1 → (sg cf l ext k).er = none → (-1 ≤ (sg cf l ext k).lo ∧ (sg cf l ext k).lo ≤ 255) ∧ (-1 ≤ (sg cf l ext k).hi ∧ (sg cf l ext k).hi ≤ 255) := by
  apply sg_cases (fun s => s.kd = 1 → s.er = none → (-1 ≤ s.lo ∧ s.lo ≤ 255) ∧ (-1 ≤ s.hi ∧ s.hi ≤ 255))
  case h123 => exact fun m n k2 _ hi _ _ => itv_fits hl hi
  all_goals
    intros
    dsimp only
    omega
theorem sg_nd_fit (cf : ByteArray → (Nat → Bool) × Bool) (l : List Int) (ext : Bool) (k : Nat) : (sg cf l ext k).nd.Fit := by
  apply sg_cases (fun s => s.nd.Fit) <;> intros <;> exact fit_zero (by decide) (by decide) (by decide) trivial
/-- What was read fits. -/
theorem rdR_fit (cf : ByteArray → (Nat → Bool) × Bool) {l : List Int} (hl : Byt l) (ext : Bool) (n : Nat) (md : RM) (k g o : Nat) (t : Nd) (k1 g1 : Nat) (h : rdR cf l ext n md k g o = some (.ok t k1 g1)) (hm : fitL md.list) (hg : g ≤ 9) : t.Fit ∧ g1 ≤ 9 := by
  have key := rdR_ind cf l ext (fun md _ g _ r => fitL md.list → g ≤ 9 → ∀ t k1 g1, r = .ok t k1 g1 → t.Fit ∧ g1 ≤ 9) ?_ ?_ ?_ ?_ ?_ ?_ ?_ ?_ ?_ ?_ ?_ ?_ ?_ ?_ ?_ n md k g o _ h
  · exact key hm hg t k1 g1 rfl
  · intro bs k g o c p _ _ _ t k1 g1 e; cases e
  · intro bs k g o b k1 g1 r h1 _ h2 hm hg t k2 g2 e
    have a := h1 (fun x hx => by cases hx) hg _ _ _ rfl
    exact h2 (fit_snoc hm a.1) a.2 _ _ _ e
  · intro bs k g o b k1 g1 h1 _ hm hg t k2 g2 e
    have a := h1 (fun x hx => by cases hx) hg _ _ _ rfl
    cases e
    exact ⟨fit_join (fit_snoc hm a.1), a.2⟩
  · intro k g o _ _ _ t k1 g1 e; cases e
  · intro items k g o _ _ hm hg t k1 g1 e
    cases e
    exact ⟨fit_join hm, hg⟩
  · intro items k g o r _ _ h2 hm hg t k1 g1 e
    exact h2 (fit_snoc hm (fit_zero (by decide) (by decide) (by decide) trivial)) hg _ _ _ e
  · intro items k g o _ _ _ _ t k1 g1 e; cases e
  · intro items k g o c p _ _ _ _ _ t k1 g1 e; cases e
  · intro items k g o r hk1 _ her h2 hm hg t k1 g1 e
    have a := sg_num cf hl ext k hk1 her
    exact h2 (fit_rep hm a.1 a.2) hg _ _ _ e
  · intro items k g o _ _ _ _ t k1 g1 e; cases e
  · intro items k g o c p _ _ _ _ _ t k1 g1 e; cases e
  · intro items k g o t k1 g1 _ _ _ _ _ _ t' k2 g2 e; cases e
  · intro items k g o t k1 g1 r _ h9 h1 _ h2 hm hg t' k2 g2 e
    have a := h1 (fun x hx => by cases hx) (by omega) _ _ _ rfl
    exact h2 (fit_snoc hm (fit_zero (by decide) (by decide) (by omega) (fo_fit _ (fit_one a.1)))) a.2 _ _ _ e
  · intro items k g o c p _ _ _ _ _ _ t k1 g1 e; cases e
  · intro items k g o r _ _ _ _ _ h2 hm hg t k1 g1 e
    exact h2 (fit_snoc hm (sg_nd_fit cf l ext k)) hg _ _ _ e
/-- What Parse tells fits, and is small. -/
theorem parseN_fit {cf : ByteArray → (Nat → Bool) × Bool} {l : List Int} (hl : Byt l) {ext : Bool} {n : Nat} {t : Nd} {k g : Nat} (h : parseN cf l ext n = some (.ok t k g)) : t.Fit ∧ t.sz ≤ 1026 := by
  obtain ⟨h1, h2, h3, _⟩ := parseN_ok h
  have a := rdR_fit cf hl ext _ _ _ _ _ _ _ _ h2 (fun x hx => by cases hx) (Nat.zero_le _)
  have b := rdR_sz cf l ext _ _ _ _ _ _ _ _ h2 (Nat.zero_le _)
  have z : RM.sz (.re []) = 0 := rfl
  have z2 : RM.ad (.re []) = 2 := rfl
  rw [z, z2] at b
  exact ⟨a.1, by omega⟩
end Go.Proofs.YthmgcebonplcgaaGreatDoor
/- Same: a tree and itself (gen_resm.py). -/
namespace Go.Proofs.YthmgcebonplcgaaGreatDoor
open Go.RowKit

theorem kid_len {w : World} {S : Nat → Prop} {n : Nd} {l : List Nd} {a : Option Addr} {m c : Nat} (hl : n.kids = fo l) (hin : n.In w S (.slice a m c)) : m = l.length := by
  obtain ⟨ks, h1, _⟩ := hin
  obtain ⟨_, cap, e⟩ := h1.shape
  simp only [Value.slice.injEq] at e
  rw [e.2.1, hl, fo_len]
theorem re_cells {W : World} {b : Nat} {n : Nd} {kv : Value} (h : W.heap[b]? = some (.cells (n.cells kv).toArray 39 (0, 0))) : W.cell? ⟨b, 0, none⟩ = some (.int .i64 n.kd) ∧ W.cell? ⟨b, 1, none⟩ = some (.int .u64 (sw n.p 0 : Nat)) ∧ W.cell? ⟨b, 2, none⟩ = some (.int .u64 (sw n.p 1 : Nat)) ∧ W.cell? ⟨b, 3, none⟩ = some (.int .u64 (sw n.p 2 : Nat)) ∧ W.cell? ⟨b, 4, none⟩ = some (.int .u64 (sw n.p 3 : Nat)) ∧ W.cell? ⟨b, 5, none⟩ = some (.int .i64 n.mn) ∧ W.cell? ⟨b, 6, none⟩ = some (.int .i64 n.mx) ∧ W.cell? ⟨b, 7, none⟩ = some (.int .i64 n.gp) ∧ W.cell? ⟨b, 8, none⟩ = some kv :=
  ⟨(Lib.cell_of_heap h 0).trans rfl, (Lib.cell_of_heap h 1).trans rfl, (Lib.cell_of_heap h 2).trans rfl, (Lib.cell_of_heap h 3).trans rfl, (Lib.cell_of_heap h 4).trans rfl, (Lib.cell_of_heap h 5).trans rfl, (Lib.cell_of_heap h 6).trans rfl, (Lib.cell_of_heap h 7).trans rfl, (Lib.cell_of_heap h 8).trans rfl⟩
end Go.Proofs.YthmgcebonplcgaaGreatDoor
